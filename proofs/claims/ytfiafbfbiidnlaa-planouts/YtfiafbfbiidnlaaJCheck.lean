/-
  Max, ContainsFunc; Check and Weights.
-/
import Derived.Test.YtfiafbfbiidnlaaJWeighW
namespace Go.Proofs.Ytfiafbfbiidnlaa
open Go.RowKit

def mxN (l : List Nat) : Nat := l.foldl max 0
theorem mxN_take {l : List Nat} {t x : Nat} (hx : l[t]? = some x) : mxN (l.take (t + 1)) = max (mxN (l.take t)) x := by
  have hl := lt_of_get hx
  rw [List.getElem?_eq_getElem hl] at hx
  cases hx
  unfold mxN
  rw [List.take_succ_eq_append_getElem hl, List.foldl_append]
  rfl
set_option maxHeartbeats 1000000 in
set_option maxRecDepth 100000 in
theorem max_any {w : World} {G n : Nat} {ws : List Nat} (hn : ws.length = n) (h1 : 1 ≤ n) (h2 : n ≤ 1000) (hG : BoxT 3 w G (ws.map fun x : Nat => Value.int .i64 (x : Int)).toArray) :
    Calls Try.prog 42 #[.slice (some ⟨G, 0, none⟩) n n] w fun e w' => e = .returned (.int .i64 (mxN ws : Nat)) ∧ w = w' := by
  have hat : Hid (∀ (t x : Nat), ws[t]? = some x → w.cell? ⟨G, t, none⟩ = some (.int .i64 (x : Int))) := fun t x hx => by
    rw [hG.cellAt]; simp [hx]
  obtain ⟨y, hy⟩ := get_of_lt (l := ws) (i := 0) (by omega)
  have c0 := hat.out 0 y hy
  have HN := hide hn
  have hm1 : mxN (ws.take 1) = y := by
    have := mxN_take hy
    rw [this]; simp [mxN]
  have HM1 := hide hm1
  obtain ⟨R, hR⟩ : ∃ R, mxN ws = R := ⟨_, rfl⟩
  rw [hR]
  have HR := hide hR
  have b1 : ¬ (n : Int) < 1 := by omega
  have b0 : (0 : Int) < (n : Int) := by omega
  clear hn hG hy hm1 hR
  go_enter Try.func42, Try.ntmps42
  go_wp2_with fail
  go_loop [3, 4] (fun mv iv => ∃ t : Nat, iv = .int .i64 (t : Int) ∧ t ≤ n ∧ mv = .int .i64 (mxN (ws.take t) : Nat)) (fun _ iv => n - (intOf iv).toNat)
  case atStart => exact ⟨1, rfl, by omega, by rw [HM1.out]⟩
  case round =>
    obtain ⟨t, rfl, ht, rfl⟩ := hrel
    by_cases hlt : t < n
    · obtain ⟨x, hx⟩ := get_of_lt (l := ws) (i := t) (by rw [HN.out]; exact hlt)
      have cx := hat.out t x hx
      have bt : (t : Int) < (n : Int) := by omega
      have HT := hide (mxN_take hx)
      obtain ⟨q, hq⟩ : ∃ q, mxN (ws.take t) = q := ⟨_, rfl⟩
      rw [hq] at HT ⊢
      have hmax : (if q < x then (x : Int) else (q : Int)) = ((max q x : Nat) : Int) := by split <;> omega
      have HMX := hide hmax
      clear hx hq hmax
      go_wp2_with fail
      go_round
      case rel => exact ⟨t + 1, by go_num, by omega, by rw [HT.out, HMX.out]⟩
      case measure => simp [intOf]; omega
    · have bt : ¬ (t : Int) < (n : Int) := by omega
      have hte : t = n := by omega
      have HQ : Hid (mxN (ws.take t) = R) := (show _ = R by rw [hte, ← HN.out, List.take_length]; exact HR.out)
      clear hte
      obtain ⟨q, hq⟩ : ∃ q, mxN (ws.take t) = q := ⟨_, rfl⟩
      rw [hq] at HQ ⊢
      clear hq
      go_wp2_with fail
      go_ret
      exact ⟨ret_int (by rw [HQ.out]), rfl⟩

set_option maxHeartbeats 1000000 in
set_option maxRecDepth 100000 in
theorem indexSink_any {w : World} {v : Value} {ns : List Nd} (hj : JobIn w.heap.size w v ns) :
    Calls Try.prog 54 #[v, .func (.func 44) #[] #[]] w fun e w' => ∃ k : Int, e = .returned (.int .i64 k) ∧ (decide (0 ≤ k)) = (ns.any fun n => decide (n.kind = 8)) ∧ Below w.heap.size w w' := by
  obtain ⟨na, ncp, rfl⟩ := hj.shape
  have hlen : ns.length ≤ 140737488355328 := by
    obtain ⟨_, _, e, h2, _⟩ := hj.seg
    exact h2
  have HJ := hide hj
  clear hj
  go_enter Try.func54, Try.ntmps54
  go_wp2_with fail
  go_loopg [8] (ns.length + 1) (fun g iv wr => ∃ t : Nat, iv = .int .i64 (t : Int) ∧ t ≤ ns.length ∧ ns.length + 1 ≤ g + t ∧ Hid (((ns.take t).any fun n => decide (n.kind = 8)) = false) ∧ Hid (Below w.heap.size w wr))
  case atStart => exact ⟨0, rfl, by omega, by omega, rfl, Below.refl _ _⟩
  case round =>
    obtain ⟨t, rfl, ht, hg, GA, GB⟩ := hrel
    obtain ⟨go, rfl⟩ : ∃ go, gk = go + 1 := ⟨gk - 1, by omega⟩
    by_cases hlt : t < ns.length
    · obtain ⟨n, hn⟩ := get_of_lt hlt
      have bt : (t : Int) < (ns.length : Int) := by omega
      obtain ⟨nb, no, rfl, -, d0, d1, d2, d3, d4, d5, d6, d7, d8, d9⟩ := (HJ.out.below GB.out).at_ hn
      have HSK : Hid (Calls Try.prog 44 #[n.val] wr fun e w' => e = .returned (.bool (decide (n.kind = 8))) ∧ Below wr.heap.size wr w') := sink_any n wr
      have HN := hide hn
      have hany : Hid (((ns.take (t + 1)).any fun n => decide (n.kind = 8)) = decide (n.kind = 8)) := by
        have hl := lt_of_get hn
        rw [List.getElem?_eq_getElem hl] at hn
        cases hn
        rw [List.take_succ_eq_append_getElem hl, List.any_append, GA.out]
        simp [Hid]
      clear hn
      obtain ⟨kd, ia, icp, ins, par, ⟨eo, en, ea, ec, el⟩, ag, wk, wz, wl⟩ := n
      unfold Nd.val at HSK
      simp only at d0 d1 d2 d3 d4 d5 d6 d7 d8 d9 HSK hany
      by_cases h8 : kd = 8
      · have hd8 : decide (kd = 8) = true := by simp [h8]
        rw [hd8] at HSK
        have HT : Hid ((ns.any fun n => decide (n.kind = 8)) = true) := by
          refine List.any_eq_true.2 ⟨_, List.mem_of_getElem? HN.out, ?_⟩
          simpa using h8
        clear hd8 h8
        go_wp2_with (go_at_call 44; refine HSK.out.mono ?_; rintro e w1 ⟨rfl, b1⟩)
        go_ret
        exact ⟨_, rfl, by rw [HT.out]; simp, GB.out.trans (b1.mono GB.out.size)⟩
      · have hd8 : decide (kd = 8) = false := by simp [h8]
        rw [hd8] at HSK hany
        clear hd8 h8
        go_wp2_with (go_at_call 44; refine HSK.out.mono ?_; rintro e w1 ⟨rfl, b1⟩)
        go_roundg go
        case rel => exact ⟨t + 1, by go_num, by omega, by omega, hany, GB.out.trans (b1.mono GB.out.size)⟩
        case measure => omega
    · have bt : ¬ (t : Int) < (ns.length : Int) := by omega
      have HT : Hid ((ns.any fun n => decide (n.kind = 8)) = false) := by
        have := GA.out
        rw [List.take_of_length_le (by omega)] at this
        exact this
      go_wp2_with fail
      go_ret
      exact ⟨_, rfl, by rw [HT.out]; simp, GB.out⟩
set_option maxHeartbeats 1000000 in
set_option maxRecDepth 100000 in
theorem hasSink_any {w : World} {v : Value} {ns : List Nd} (hj : JobIn w.heap.size w v ns) :
    Calls Try.prog 43 #[v, .func (.func 44) #[] #[]] w fun e w' => e = .returned (.bool (ns.any fun n => decide (n.kind = 8))) ∧ Below w.heap.size w w' := by
  have HX := hide (indexSink_any hj)
  go_enter Try.func43, Try.ntmps43
  go_wp2_with (go_at_call 54; refine HX.out.mono ?_; rintro e w1 ⟨k, rfl, hk, b1⟩; have HK := hide hk; clear hk)
  go_ret
  exact ⟨ret_bool HK.out, b1⟩

/-- What Check tells of a job. -/
def errJ (ns : List Nd) : Int :=
  if errW ns ≠ 0 then errW ns else if 64 < mxN (wts ns) then 88 else if (ns.any fun n => decide (n.kind = 8)) = false then 80 else 0
theorem errW_pos {ns : List Nd} (h : errW ns = 0) : 1 ≤ ns.length ∧ ns.length ≤ 12 := by
  unfold errW at h
  by_cases h0 : ns.length < 1 ∨ 12 < ns.length
  · rw [if_pos h0] at h; cases h
  · omega
set_option maxHeartbeats 1000000 in
set_option maxRecDepth 100000 in
theorem Check_any {w : World} {v : Value} {ns : List Nd} (hj : JobIn w.heap.size w v ns) (hE : ExOk w ns) :
    Calls Try.prog 29 #[.agg #[v]] w fun e w' => e = .returned (.int .i64 (errJ ns)) ∧ Below w.heap.size w w' := by
  have hb : Below w.heap.size w (w.alloc (.cells #[v] 24)) := (Below.refl _ _).alloc (Nat.le_refl _) _
  have HW := hide (weigh_any ((hj.below hb).mono hb.size) (hE.below hb))
  have HB := hide hb
  have HBX := hide (BoxT.new 24 w #[v])
  have HJ := hide hj
  obtain ⟨na, ncp, rfl⟩ := hj.shape
  obtain ⟨R, hR⟩ : ∃ R, errJ ns = R := ⟨_, rfl⟩
  rw [hR]
  unfold errJ at hR
  clear hb hj hE
  by_cases h0 : errW ns = 0
  · rw [if_neg (by simp [h0])] at hR
    obtain ⟨l1, l2⟩ := errW_pos h0
    have HSK : Hid (∀ w', Below w.heap.size w w' → Calls Try.prog 43 #[.slice na ns.length ncp, .func (.func 44) #[] #[]] w' fun e w'' => e = .returned (.bool (ns.any fun n => decide (n.kind = 8))) ∧ Below w'.heap.size w' w'') := fun w' hb => hasSink_any ((HJ.out.below hb).mono hb.size)
    have H0 := hide h0
    rw [h0] at HW
    clear h0
    by_cases h88 : 64 < mxN (wts ns)
    · rw [if_pos h88] at hR
      subst hR
      have hc : ¬ (mxN (wts ns) : Int) ≤ 64 := by omega
      obtain ⟨M, hM⟩ : ∃ M, mxN (wts ns) = M := ⟨_, rfl⟩
      rw [hM] at hc
      have HM := hide hM
      clear h88 hM
      go_enter Try.func29, Try.ntmps29
      go_wp2_with (first
        | (go_at_call 41; refine HW.out.mono ?_; rintro e w1 ⟨u, rfl, hw, b1⟩; obtain ⟨G, rfl, hG, hbx⟩ := (show ∃ G, u = .slice (some ⟨G, 0, none⟩) ns.length ns.length ∧ _ ∧ _ from hw.elim (fun h => absurd H0.out h.1) (fun h => h.2)); have HMA := hide (max_any (wts_len ns) l1 (by omega) hbx); rw [HM.out] at HMA; have B1 := hide (HB.out.trans (b1.mono HB.out.size)); clear hw b1 hbx hG)
        | (go_at_call 42; refine HMA.out.mono ?_; rintro e w2 ⟨rfl, rfl⟩))
      go_ret
      exact ⟨rfl, B1.out⟩
    · rw [if_neg h88] at hR
      have hc : (mxN (wts ns) : Int) ≤ 64 := by omega
      obtain ⟨M, hM⟩ : ∃ M, mxN (wts ns) = M := ⟨_, rfl⟩
      rw [hM] at hc
      have HM := hide hM
      clear h88 hM
      obtain ⟨bs, hbs⟩ : ∃ bs, (ns.any fun n => decide (n.kind = 8)) = bs := ⟨_, rfl⟩
      rw [hbs] at hR HSK
      clear hbs
      cases bs with
      | false =>
        rw [if_pos rfl] at hR
        subst hR
        go_enter Try.func29, Try.ntmps29
        go_wp2_with (first
          | (go_at_call 41; refine HW.out.mono ?_; rintro e w1 ⟨u, rfl, hw, b1⟩; obtain ⟨G, rfl, hG, hbx⟩ := (show ∃ G, u = .slice (some ⟨G, 0, none⟩) ns.length ns.length ∧ _ ∧ _ from hw.elim (fun h => absurd H0.out h.1) (fun h => h.2)); have HMA := hide (max_any (wts_len ns) l1 (by omega) hbx); rw [HM.out] at HMA; have B1 := hide (HB.out.trans (b1.mono HB.out.size)); have cx : w1.cell? ⟨w.heap.size, 0, none⟩ = some (.slice na ns.length ncp) := (by rw [(HBX.out.below b1).cellAt]; rfl); clear hw b1 hbx hG)
          | (go_at_call 42; refine HMA.out.mono ?_; rintro e w2 ⟨rfl, rfl⟩)
          | (go_at_call 43; refine (HSK.out _ B1.out).mono ?_; rintro e w3 ⟨rfl, b3⟩))
        go_ret
        exact ⟨rfl, B1.out.trans (b3.mono B1.out.size)⟩
      | true =>
        rw [if_neg (by decide)] at hR
        subst hR
        go_enter Try.func29, Try.ntmps29
        go_wp2_with (first
          | (go_at_call 41; refine HW.out.mono ?_; rintro e w1 ⟨u, rfl, hw, b1⟩; obtain ⟨G, rfl, hG, hbx⟩ := (show ∃ G, u = .slice (some ⟨G, 0, none⟩) ns.length ns.length ∧ _ ∧ _ from hw.elim (fun h => absurd H0.out h.1) (fun h => h.2)); have HMA := hide (max_any (wts_len ns) l1 (by omega) hbx); rw [HM.out] at HMA; have B1 := hide (HB.out.trans (b1.mono HB.out.size)); have cx : w1.cell? ⟨w.heap.size, 0, none⟩ = some (.slice na ns.length ncp) := (by rw [(HBX.out.below b1).cellAt]; rfl); clear hw b1 hbx hG)
          | (go_at_call 42; refine HMA.out.mono ?_; rintro e w2 ⟨rfl, rfl⟩)
          | (go_at_call 43; refine (HSK.out _ B1.out).mono ?_; rintro e w3 ⟨rfl, b3⟩))
        go_ret
        exact ⟨rfl, B1.out.trans (b3.mono B1.out.size)⟩
  · rw [if_pos h0] at hR
    rw [hR] at HW
    have hn : (R != 0) = true := by rw [← hR]; simp [h0]
    clear hR h0
    go_enter Try.func29, Try.ntmps29
    go_wp2_with (go_at_call 41; refine HW.out.mono ?_; rintro e w1 ⟨u, rfl, hw, b1⟩; clear hw)
    go_ret
    exact ⟨rfl, HB.out.trans (b1.mono HB.out.size)⟩
end Go.Proofs.Ytfiafbfbiidnlaa
