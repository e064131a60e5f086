/-
  weigh walked.
-/
import Derived.Test.YtfiafbfbiidnlaaJWeigh
namespace Go.Proofs.Ytfiafbfbiidnlaa
open Go.RowKit

/-- What Check tells of the nodes' expressions, wherever it is asked behind w. -/
def ExOk (w : World) (ns : List Nd) : Prop := ∀ n ∈ ns, 2 ≤ n.kind ∧ n.kind ≤ 4 → ∀ w', Below w.heap.size w w' → Calls Try.prog 67 #[n.e.val] w' fun r w'' => r = .returned (.int .i64 (chk n.e)) ∧ Below w'.heap.size w' w''
theorem ExOk.below {w w' : World} {ns : List Nd} (h : ExOk w ns) (hb : Below w.heap.size w w') : ExOk w' ns := fun n hn hk w'' h2 => h n hn hk w'' (hb.trans (h2.mono hb.size))
/-- What weigh hands back. -/
def Wgh (w w' : World) (ns : List Nd) (v : Value) : Prop :=
  (errW ns ≠ 0 ∧ v = .slice none 0 0) ∨ (errW ns = 0 ∧ ∃ G, v = .slice (some ⟨G, 0, none⟩) ns.length ns.length ∧ w.heap.size ≤ G ∧ BoxT 3 w' G ((wts ns).map fun x : Nat => Value.int .i64 (x : Int)).toArray)
theorem wts_len (ns : List Nd) : (wts ns).length = ns.length := by
  unfold wts wtsL
  have : ∀ (l : List Nat) (ws : List Nat), (l.foldl (fun ws i => ws.set i (wt1 (ns.getD i nd0) ws)) ws).length = ws.length := by
    intro l
    induction l with
    | nil => intro ws; rfl
    | cons x r ih => intro ws; rw [List.foldl_cons, ih]; simp
  rw [this]; simp
theorem wtsL_at {ns : List Nd} {l ws : List Nat} {t i : Nat} {n : Nd} (h : l[t]? = some i) (hn : ns[i]? = some n) : wtsL ns (l.drop t) ws = wtsL ns (l.drop (t + 1)) (ws.set i (wt1 n ws)) := by
  have hl := lt_of_get h
  rw [List.drop_eq_getElem_cons hl]
  rw [List.getElem?_eq_getElem hl] at h
  cases h
  unfold wtsL
  rw [List.foldl_cons, getD_of hn]
theorem ordP_len (inss : List (List Int)) (f : Nat) : ∀ (pl : List Bool) (s : LS), (ordP inss f pl s).length ≤ f := by
  induction f with
  | zero => intro pl s; simp [ordP]
  | succ f ih =>
    intro pl s
    rw [ordP]
    split
    · simp
    · rw [List.length_cons]
      have := ih (pl.set ((popL s.2.2).getLastD 0) true) (lookP inss (pl.set ((popL s.2.2).getLastD 0) true) (s.1, s.2.1, (popL s.2.2).dropLast) (s.2.1.getD ((popL s.2.2).getLastD 0) []))
      omega
theorem ordC_len (inss : List (List Int)) : (ordC inss).length ≤ inss.length + 1 := ordP_len _ _ _ _
set_option maxHeartbeats 4000000 in
set_option maxRecDepth 100000 in
theorem weigh_any {w : World} {v : Value} {ns : List Nd} (hj : JobIn w.heap.size w v ns) (hE : ExOk w ns) :
    Calls Try.prog 41 #[.agg #[v]] w fun e w' => ∃ u, e = .returned (.tuple #[u, .int .i64 (errW ns)]) ∧ Wgh w w' ns u ∧ Below w.heap.size w w' := by
  obtain ⟨na, ncp, rfl⟩ := hj.shape
  have hb : Below w.heap.size w (w.alloc (.cells #[.slice na ns.length ncp] 24)) := (Below.refl _ _).alloc (Nat.le_refl _) _
  have HB := hide hb
  have HBX := hide (BoxT.new 24 w #[.slice na ns.length ncp])
  have HJ := hide hj
  have HE := hide hE
  clear hb hj hE
  by_cases h0 : ns.length < 1 ∨ 12 < ns.length
  · have he : errW ns = 80 := by unfold errW; rw [if_pos h0]
    have HW : Hid (∀ w', Wgh w w' ns (.slice none 0 0)) := fun w' => .inl ⟨by rw [he]; decide, rfl⟩
    rw [he]
    by_cases h1 : ns.length < 1
    · have h2 : (ns.length : Int) < 1 := by omega
      clear h0
      go_enter Try.func41, Try.ntmps41
      go_wp2_with fail
      go_ret2
      exact ⟨_, rfl, HW.out _, HB.out⟩
    · have h2 : ¬ (ns.length : Int) < 1 := by omega
      have h3 : ¬ (ns.length : Int) ≤ 12 := by omega
      clear h0
      go_enter Try.func41, Try.ntmps41
      go_wp2_with fail
      go_ret2
      exact ⟨_, rfl, HW.out _, HB.out⟩
  · have h2 : ¬ (ns.length : Int) < 1 := by omega
    have h3 : (ns.length : Int) ≤ 12 := by omega
    have he : errW ns = if fault ns ns ≠ 0 then fault ns ns else if (ordC (ns.map Nd.ins)).length < ns.length then 83 else 0 := by unfold errW; rw [if_neg h0]
    have HER := hide he
    obtain ⟨F, hF⟩ : ∃ F, fault ns ns = F := ⟨_, rfl⟩
    have HF : Hid (fault ns (ns.drop 0) = F) := hF
    rw [hF] at he
    have HE1 := hide he
    clear h0 he hF
    have HPO : Hid (∀ (W : World) (u : Value) (x : Int), x = errW ns → Wgh w W ns u → Below w.heap.size w W → ∃ u', Ending.returned (.tuple #[u, .int .i64 x]) = .returned (.tuple #[u', .int .i64 (errW ns)]) ∧ Wgh w W ns u' ∧ Below w.heap.size w W) := fun W u x h1 h2 h3 => ⟨u, by rw [h1], h2, h3⟩
    go_enter Try.func41, Try.ntmps41
    go_wp2_with fail
    go_loopg [24] (ns.length + 1) (fun g iv wr => ∃ t : Nat, iv = .int .i64 (t : Int) ∧ t ≤ ns.length ∧ ns.length + 1 ≤ g + t ∧ Hid (fault ns (ns.drop t) = F) ∧ Hid (Below w.heap.size w wr) ∧ Hid (BoxT 24 wr w.heap.size #[.slice na ns.length ncp]))
    case atStart => exact ⟨0, rfl, by omega, by omega, HF, HB, HBX⟩
    case round =>
      obtain ⟨t, rfl, ht, hg, GF, GB, GX⟩ := hrel
      obtain ⟨go, rfl⟩ : ∃ go, gk = go + 1 := ⟨gk - 1, by omega⟩
      have cx : wr.cell? ⟨w.heap.size, 0, none⟩ = some (.slice na ns.length ncp) := by rw [GX.out.cellAt]; rfl
      by_cases hlt : t < ns.length
      · obtain ⟨n, hn⟩ := get_of_lt hlt
        have bt : (t : Int) < (ns.length : Int) := by omega
        obtain ⟨nb, no, rfl, nlt, d0, d1, d2, d3, d4, d5, d6, d7, d8, d9⟩ := (HJ.out.below GB.out).at_ hn
        have hf := GF.out
        rw [fault_at hn] at hf
        have hnm := List.mem_of_getElem? hn
        have hb1 : Below wr.heap.size wr (wr.alloc (.cells n.cs.toArray 54)) := (Below.refl _ _).alloc (Nat.le_refl _) _
        have hb2 : Below w.heap.size w (wr.alloc (.cells n.cs.toArray 54)) := GB.out.trans (hb1.mono GB.out.size)
        have HCK := hide (checkNode_any n (chk n.e) (HJ.out.below hb2) ((HJ.out.ins n hnm).below hb2) hb2.size (fun hk w' hb' => HE.out n hnm hk w' (hb2.trans (hb'.mono hb2.size))))
        have HB2 := hide hb2
        have hcx2 : (wr.alloc (.cells n.cs.toArray 54)).cell? ⟨w.heap.size, 0, none⟩ = some (.slice (some ⟨nb, no, none⟩) ns.length ncp) := by rw [(GX.out.below hb1).cellAt]; rfl
        have HX2 := hide (GX.out.below hb1)
        have hck : ckN (ns.map Nd.kind) n (chk n.e) = ckE ns n := rfl
        rw [hck] at HCK
        have HN := hide hn
        clear hck hb1 hb2 hnm hn
        obtain ⟨c, hc⟩ : ∃ c, ckE ns n = c := ⟨_, rfl⟩
        rw [hc] at HCK hf
        clear hc
        obtain ⟨kd, ia, icp, ins, par, ⟨eo, en, ea, ec, el⟩, ag, wk, ws, wl⟩ := n
        unfold Nd.val at *
        unfold Nd.cs at *
        simp only at d0 d1 d2 d3 d4 d5 d6 d7 d8 d9 HCK HB2 hcx2 HX2
        by_cases hc0 : c = 0
        · rw [if_pos hc0] at hf
          subst hc0
          have HF2 := hide hf
          clear hf
          go_wp2_with (go_at_call 51; refine HCK.out.mono ?_; rintro e w1 ⟨rfl, b1⟩)
          go_roundg go
          case rel => exact ⟨t + 1, by go_num, by omega, by omega, HF2, HB2.out.trans (b1.mono HB2.out.size), HX2.out.below b1⟩
          case measure => omega
        · rw [if_neg hc0] at hf
          have hcn : (c != 0) = true := by simp [hc0]
          have HC : Hid (c = errW ns) := by rw [HE1.out, if_pos (by rw [← hf]; exact hc0)]; exact hf
          have HC0 := hide hc0
          clear hf hc0
          go_wp2_with (go_at_call 51; refine HCK.out.mono ?_; rintro e w1 ⟨rfl, b1⟩)
          go_ret2
          exact HPO.out _ _ _ HC.out (.inl ⟨by rw [← HC.out]; exact HC0.out, rfl⟩) (HB2.out.trans (b1.mono HB2.out.size))
      · have bt : ¬ (t : Int) < (ns.length : Int) := by omega
        have HF0 : Hid (F = 0) := by
          have := GF.out
          rw [List.drop_eq_nil_of_le (by omega)] at this
          exact this.symm
        have hal : Hid (∀ n ∈ ns, ckE ns n = 0) := fault_zero (HF.out.trans HF0.out)
        have HOR := hide (Order_any (w := wr) ((HJ.out.below GB.out).mono GB.out.size) (by omega))
        obtain ⟨ord, hord⟩ : ∃ ord, ordC (ns.map Nd.ins) = ord := ⟨_, rfl⟩
        have HORD := hide hord
        rw [hord] at HOR
        have HE2 : Hid (errW ns = if ord.length < ns.length then 83 else 0) := (show errW ns = _ by rw [HE1.out, if_neg (by rw [HF0.out]; decide), hord])
        have HWT : Hid (wtsL ns (ord.drop 0) (List.replicate ns.length 0) = wts ns) := by unfold wts; rw [hord]; rfl
        have hol : ord.length ≤ 140737488355328 := by
          have := ordC_len (ns.map Nd.ins)
          rw [hord, List.length_map] at this
          omega
        have HOL : Hid (∀ x ∈ ord, x < ns.length) := by
          have := ordC_lt (ns.map Nd.ins)
          rw [hord, List.length_map] at this
          exact this
        clear hord GF
        by_cases hlt2 : ord.length < ns.length
        · have hc2 : (ord.length : Int) < (ns.length : Int) := by omega
          have HE3 : Hid (83 = errW ns) := (show 83 = errW ns by rw [HE2.out, if_pos hlt2])
          go_wp2_with (go_at_call 52; refine HOR.out.mono ?_; rintro e w1 ⟨rv, rfl, o1, b1⟩; obtain ⟨oa, oc, rfl⟩ := o1.shape; have c1 : w1.cell? ⟨w.heap.size, 0, none⟩ = some (.slice na ns.length ncp) := (by rw [(GX.out.below b1).cellAt]; rfl); have B1 := hide (GB.out.trans (b1.mono GB.out.size)); clear o1 b1)
          go_ret2
          exact HPO.out _ _ _ HE3.out (.inl ⟨by rw [← HE3.out]; decide, rfl⟩) B1.out
        · have hc2 : ¬ (ord.length : Int) < (ns.length : Int) := by omega
          have HE3 : Hid (0 = errW ns) := (show 0 = errW ns by rw [HE2.out, if_neg hlt2])
          have m2 : ∀ W : World, (Instr.makeSlice 34 (.int .i64 (ns.length : Int)) (.int .i64 (ns.length : Int))).run Try.prog W = _ := fun W => mkN W ns.length (by omega)
          obtain ⟨cP, hcP⟩ : ∃ c, ((List.replicate ns.length 0).map fun x : Nat => Value.int .i64 (x : Int)).toArray = c := ⟨_, rfl⟩
          rw [hcP] at m2
          have HP := hide hcP
          clear hcP
          go_wp2_with (go_at_call 52; refine HOR.out.mono ?_; rintro e w1 ⟨rv, rfl, o1, b1⟩; obtain ⟨oa, oc, rfl⟩ := o1.shape; have X1 := hide (GX.out.below b1); have c1 : w1.cell? ⟨w.heap.size, 0, none⟩ = some (.slice na ns.length ncp) := (by rw [X1.out.cellAt]; rfl); have B1 := hide (GB.out.trans (b1.mono GB.out.size)); have O1 := hide o1; clear o1 b1)
          go_loopg [50] (ord.length + 1) (fun g iv w5 => ∃ (t : Nat) (ws : List Nat), iv = .int .i64 (t : Int) ∧ t ≤ ord.length ∧ ord.length + 1 ≤ g + t ∧ ws.length = ns.length ∧ Hid (∀ x ∈ ws, x ≤ 65) ∧ Hid (BoxT 3 w5 w1.heap.size (ws.map fun x : Nat => Value.int .i64 (x : Int)).toArray) ∧ Hid (wtsL ns (ord.drop t) ws = wts ns) ∧ Hid (Below w1.heap.size w1 w5))
          case atStart => exact ⟨0, List.replicate ns.length 0, rfl, by omega, by omega, by simp, (fun x hx => by rw [List.eq_of_mem_replicate hx]; omega), by rw [HP.out]; exact BoxT.new 3 w1 cP, HWT, (Below.refl _ _).alloc (Nat.le_refl _) _⟩
          case round =>
            clear bt ht hlt hg
            obtain ⟨t, ws, rfl, ht, hg, hwl, H65, HG, HWS, HBL⟩ := hrel
            obtain ⟨gi, rfl⟩ : ∃ gi, gk = gi + 1 := ⟨gk - 1, by omega⟩
            clear cx c1
            have cx : wr.cell? ⟨w.heap.size, 0, none⟩ = some (.slice na ns.length ncp) := by rw [(X1.out.below HBL.out).cellAt]; rfl
            have HB4 := hide (B1.out.trans (HBL.out.mono B1.out.size))
            by_cases hlt : t < ord.length
            · obtain ⟨i, hi⟩ := get_of_lt hlt
              have hin := HOL.out i (List.mem_of_getElem? hi)
              obtain ⟨n, hn⟩ := get_of_lt (l := ns) (i := i) hin
              have hnm := List.mem_of_getElem? hn
              have hfine := ck_fine (hal.out n hnm)
              obtain ⟨g, cap, cur, e, h2', h3', h4', h5', h6', h7'⟩ := OwnN.row O1.out (by intro e; rw [e] at hi; simp at hi)
              cases e
              have ci : wr.cell? ⟨g, t, none⟩ = some (.int .i64 (i : Int)) := by rw [(h3'.below HBL.out).cellAt]; exact h7' t i hi
              obtain ⟨nb, no, rfl, nlt, d0, d1, d2, d3, d4, d5, d6, d7, d8, d9⟩ := (HJ.out.below HB4.out).at_ hn
              have HWG := hide (weight_any n ws ((HJ.out.ins n hnm).below HB4.out) HB4.out.size hfine.len (by rw [hwl]; exact hfine.ins) H65.out HG.out hfine.win)
              rw [hwl] at HWG
              have HWS2 := HWS.out
              rw [wtsL_at hi hn] at HWS2
              have HWS3 := hide HWS2
              have hle := wt1_le n ws
              obtain ⟨y, hy⟩ : ∃ y, wt1 n ws = y := ⟨_, rfl⟩
              rw [hy] at HWG HWS3 hle
              have b1 : (t : Int) < (ord.length : Int) := by omega
              have b2 : (i : Int) < (ns.length : Int) := by omega
              have HWL := hide hwl
              clear hy HWS2 HWS hi hn hnm hfine h2' h3' h4' h5' h6' h7' hwl
              obtain ⟨kd, ia, icp, ins, par, ⟨eo, en, ea, ec, el⟩, ag, wk, wz, wl⟩ := n
              unfold Nd.val at HWG
              simp only at d0 d1 d2 d3 d4 d5 d6 d7 d8 d9 HWG
              go_wp2_with (go_at_call 53; refine HWG.out.mono ?_; rintro e w7 ⟨rfl, b7⟩; have G7 := hide (HG.out.below b7); have hcc : ∃ u, w7.cell? ⟨w1.heap.size, i, none⟩ = some u := (by rw [G7.out.cellAt]; exact ⟨_, Array.getElem?_eq_getElem (by simp [HWL.out]; omega)⟩); obtain ⟨uu, hcc⟩ := hcc; have ff := G7.out.free i)
              go_roundg gi
              case rel =>
                refine ⟨t + 1, ws.set i y, by go_num, by omega, by omega, by rw [List.length_set]; exact HWL.out, set_le H65.out hle, ?_, HWS3, (HBL.out.trans (b7.mono HBL.out.size)).setCell (Nat.le_refl _) _⟩
                have := G7.out.set i (.int .i64 (y : Int))
                rw [map_set (fun x : Nat => Value.int .i64 (x : Int))] at this
                exact this
              case measure => omega
            · have b1 : ¬ (t : Int) < (ord.length : Int) := by omega
              have HWE : Hid (ws = wts ns) := by
                have := HWS.out
                rw [List.drop_eq_nil_of_le (by omega)] at this
                exact this
              go_wp2_with fail
              go_ret2
              exact HPO.out _ _ _ HE3.out (.inr ⟨HE3.out.symm, w1.heap.size, rfl, B1.out.size, by rw [← HWE.out]; exact HG.out⟩) HB4.out
end Go.Proofs.Ytfiafbfbiidnlaa
