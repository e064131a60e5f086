/-
  JobOrder walked, from what Check is known to tell.
-/
import Derived.Test.YtecaghjddoajmaaJTopo
import Derived.Test.YtecaghjddoajmaaJLight
import Derived.Test.YtecaghjddoajmaaJKnown
import Derived.Test.YtecaghjddoajmaaJRefOrd
namespace Go.Proofs.Ytecaghjddoajmaa
open Go.RowKit

theorem Topo.at_ {inss : List (List Int)} {pl : List Bool} {l : List Nat} {t i : Nat} (h : Topo inss pl (l.drop t)) (hi : l[t]? = some i) :
    (pl[i]? = some false ∧ ∃ is : List Int, inss[i]? = some is ∧ ∀ y ∈ is, 0 ≤ y ∧ pl[y.toNat]? = some true) ∧ Topo inss (pl.set i true) (l.drop (t + 1)) := by
  have hl := lt_of_get hi
  rw [List.drop_eq_getElem_cons hl] at h
  rw [List.getElem?_eq_getElem hl] at hi
  cases hi
  exact h
set_option maxHeartbeats 8000000 in
set_option maxRecDepth 100000 in
/-- hC: what Check must be known to tell: some number, and 0 only where each node has a place. -/
theorem JobOrder_from {w : World} {v : Value} {ns : List Nd} (hj : JobIn w.heap.size w v ns) (hE : ExIn w ns)
    (hC : ns.length ≤ 40 → (∀ n ∈ ns, lgOk n) → ∀ w', Below w.heap.size w w' → Calls Try.prog 10 #[.agg #[v]] w' fun e w'' => ∃ r : Int, e = .returned (.int .i64 r) ∧ (r = 0 → ns.length ≤ (ordC (ns.map Nd.ins)).length) ∧ Below w'.heap.size w' w'') :
    Calls Try.prog 5 #[.agg #[v]] w fun e w' => e = .returned (.bool true) ∧ Below w.heap.size w w' := by
  obtain ⟨na, ncp, rfl⟩ := hj.shape
  have hb : Below w.heap.size w (w.alloc (.cells #[.slice na ns.length ncp] 24)) := (Below.refl _ _).alloc (Nat.le_refl _) _
  have HK := hide (known_any (w.alloc (.cells #[.slice na ns.length ncp] 24)))
  have HB := hide hb
  have HX := hide (BoxT.new 24 w #[.slice na ns.length ncp])
  have HJ := hide hj
  have HE := hide hE
  have HC := hide hC
  have HTP := hide (ordC_topo (ns.map Nd.ins))
  have HLE := hide (ordC_le (ns.map Nd.ins))
  rw [List.length_map] at HTP HLE
  clear hb hj hE hC
  go_enter Try.func5, Try.ntmps5
  go_wp2_with (go_at_call 8; refine HK.out.mono ?_; rintro e w1 ⟨rfl, b1⟩; have B1 := hide (HB.out.trans (b1.mono HB.out.size)); have X1 := hide (HX.out.below b1); have c1 : w1.cell? ⟨w.heap.size, 0, none⟩ = some (.slice na ns.length ncp) := (by rw [X1.out.cellAt]; rfl); clear b1 HK HB HX)
  have hj1 := (HJ.out.below B1.out).mono B1.out.size
  refine (light_any hj1 (HE.out.below B1.out)).mono ?_
  rintro e w2 ⟨u, rfl, hlg, b2⟩
  have B2 := hide (B1.out.trans (b2.mono B1.out.size))
  have X2 := hide (X1.out.below b2)
  have c2 : w2.cell? ⟨w.heap.size, 0, none⟩ = some (.slice na ns.length ncp) := by rw [X2.out.cellAt]; rfl
  clear b2 B1 X1 c1 hj1
  rcases hlg with rfl | ⟨rfl, h40, hok⟩
  · go_wp2_with fail
    go_ret
    exact ⟨rfl, B2.out⟩
  · have HCW := hide (HC.out h40 hok w2 B2.out)
    clear HC hok
    go_wp2_with fail
    refine HCW.out.mono ?_
    rintro e w3 ⟨r, rfl, hr, b3⟩
    have B3 := hide (B2.out.trans (b3.mono B2.out.size))
    have X3 := hide (X2.out.below b3)
    have c3 : w3.cell? ⟨w.heap.size, 0, none⟩ = some (.slice na ns.length ncp) := by rw [X3.out.cellAt]; rfl
    clear b3 B2 X2 c2
    by_cases hr0 : r = 0
    · have hge := hr hr0
      subst hr0
      have HLN : Hid ((ordC (ns.map Nd.ins)).length = ns.length) := (show _ = _ from Nat.le_antisymm HLE.out hge)
      clear hge hr
      have m1 : ∀ W : World, (Instr.makeSlice 42 (.int .i64 (ns.length : Int)) (.int .i64 (ns.length : Int))).run Try.prog W = _ := fun W => mkB W ns.length (by omega)
      obtain ⟨cA, hcA⟩ : ∃ c, ((List.replicate ns.length false).map Value.bool).toArray = c := ⟨_, rfl⟩
      rw [hcA] at m1
      have HA := hide hcA
      have c4 : (w3.alloc (.cells cA 4)).cell? ⟨w.heap.size, 0, none⟩ = some (.slice na ns.length ncp) := by rw [(X3.out.alloc _).cellAt]; rfl
      clear hcA
      go_wp2_with fail
      refine step_any ?_
      intro w4 hw4
      have B4 : Hid (Below w.heap.size w w4) := by rw [hw4]; exact B3.out.alloc B3.out.size _
      have X4 : Hid (BoxT 24 w4 w.heap.size #[.slice na ns.length ncp]) := by rw [hw4]; exact X3.out.alloc _
      have A4 : Hid (BoxT 4 w4 w3.heap.size cA) := by rw [hw4]; exact BoxT.new 4 w3 cA
      clear hw4
      refine (Order_any ((HJ.out.below B4.out).mono B4.out.size) (by omega)).mono ?_
      rintro e w5 ⟨rv, rfl, o5, b5⟩
      have B5 := hide (B4.out.trans (b5.mono B4.out.size))
      have X5 := hide (X4.out.below b5)
      have A5 := hide (A4.out.below b5)
      have O5 := hide o5
      obtain ⟨A, hA⟩ : ∃ A, w3.heap.size = A := ⟨_, rfl⟩
      have hAw : w.heap.size ≤ A := by rw [← hA]; exact B3.out.size
      have HAW := hide hAw
      rw [hA] at A5 ⊢
      rw [← HA.out] at A5
      obtain ⟨od, hod⟩ : ∃ od, ordC (ns.map Nd.ins) = od := ⟨_, rfl⟩
      rw [hod] at O5 HTP HLN
      clear b5 B4 X4 A4 o5 B3 X3 c3 c4 m1 hA HA HCW hod HLE hAw
      obtain ⟨oa, ocp, hrv⟩ := O5.out.shape
      rw [HLN.out] at hrv
      subst hrv
      go_wp2_with fail
      go_loopg [5] (ns.length + 1) (fun g iv wr => ∃ (t : Nat) (pl : List Bool), iv = .int .i64 (t : Int) ∧ t ≤ ns.length ∧ ns.length + 1 ≤ g + t ∧ Hid (pl.length = ns.length) ∧ Hid (Topo (ns.map Nd.ins) pl (od.drop t)) ∧ Hid (BoxT 4 wr A (pl.map Value.bool).toArray) ∧ Hid (Below w.heap.size w wr) ∧ Hid (BoxT 24 wr w.heap.size #[.slice na ns.length ncp]) ∧ Hid (OwnN w4.heap.size wr (.slice oa ns.length ocp) od))
      case atStart => exact ⟨0, List.replicate ns.length false, rfl, by omega, by omega, List.length_replicate, HTP, A5, B5, X5, O5⟩
      case round =>
        obtain ⟨t, pl, rfl, ht, hg, GL, GT, GA, GB, GX, GO⟩ := hrel
        obtain ⟨wo, rfl⟩ : ∃ wo, wo = wr := ⟨wr, rfl⟩
        obtain ⟨go, rfl⟩ : ∃ go, gk = go + 1 := ⟨gk - 1, by omega⟩
        by_cases hlt : t < ns.length
        · obtain ⟨i, hi⟩ := get_of_lt (l := od) (i := t) (by rw [HLN.out]; exact hlt)
          obtain ⟨⟨hpi, is, his, hiy⟩, htp⟩ := GT.out.at_ hi
          obtain ⟨ob, oo, rfl, -, co⟩ := LSeg.num (OwnN.lseg GO.out (by rw [HLN.out]; omega)) (show (od.map Int.ofNat)[t]? = some (i : Int) by rw [List.getElem?_map, hi]; rfl)
          rw [List.getElem?_map] at his
          obtain ⟨n, hn, rfl⟩ := Option.map_eq_some_iff.1 his
          obtain ⟨nb, no, rfl, -, -, ci, -⟩ := (HJ.out.below GB.out).at_ hn
          have HI := hide ((HJ.out.below GB.out).ins n (List.mem_of_getElem? hn))
          have hil := lt_of_get hn
          have hil2 := HI.out.len
          have cA2 : wo.cell? ⟨A, i, none⟩ = some (.bool false) := by rw [GA.out.cellAt]; exact map_get_bool hpi
          have fA := GA.out.free i
          have cx : wo.cell? ⟨w.heap.size, 0, none⟩ = some (.slice (some ⟨nb, no, none⟩) ns.length ncp) := by rw [GX.out.cellAt]; rfl
          have bt : (t : Int) < (ns.length : Int) := by omega
          have bi : (i : Int) < (ns.length : Int) := by omega
          have HIY := hide hiy
          have HTT := hide htp
          have HPI := hide hpi
          clear hiy htp hpi his hn hi GT
          obtain ⟨kd, ia, icp, ins, par, ex, ag, wk, ws, wl⟩ := n
          dsimp only at ci HI hil2 HIY
          go_wp2_with fail
          go_quiet (fail)
          go_wp2_with fail
          go_loopg [7] (ins.length + 1) (fun g kv wi => ∃ q : Nat, kv = .int .i64 (q : Int) ∧ q ≤ ins.length ∧ ins.length + 1 ≤ g + q ∧ Hid (wi.heap = wo.heap) ∧ Hid (Below wo.heap.size wo wi))
          case atStart => exact ⟨0, rfl, by omega, by omega, rfl, below_drewN (Below.refl _ _) _⟩
          case round =>
            obtain ⟨q, rfl, hq, hgq, GH, GI⟩ := hrel
            obtain ⟨gi, rfl⟩ : ∃ gi, gk = gi + 1 := ⟨gk - 1, by omega⟩
            by_cases hlq : q < ins.length
            · obtain ⟨y, hy⟩ := get_of_lt hlq
              have bq : (q : Int) < (ins.length : Int) := by omega
              obtain ⟨yb, yo, rfl, -, cy⟩ := (HI.out.below (GI.out.mono GB.out.size)).num hy
              obtain ⟨y0, hpy⟩ := HIY.out y (List.mem_of_getElem? hy)
              obtain ⟨f, rfl⟩ : ∃ f : Nat, y = (f : Int) := ⟨y.toNat, by omega⟩
              rw [Int.toNat_natCast] at hpy
              have bf : (f : Int) < (ns.length : Int) := by have := lt_of_get hpy; rw [GL.out] at this; omega
              have cf : wr.cell? ⟨A, f, none⟩ = some (.bool true) := by rw [(GA.out.below GI.out).cellAt]; exact map_get_bool hpy
              clear hy hpy y0
              go_wp2_with fail
              go_roundg gi
              case rel => exact ⟨q + 1, by go_num, by omega, by omega, GH, GI⟩
              case measure => omega
            · have bq : ¬ (q : Int) < (ins.length : Int) := by omega
              have A6 := hide (GA.out.below GI.out)
              have c6 : wr.cell? ⟨A, i, none⟩ = some (.bool false) := by rw [A6.out.cellAt]; exact map_get_bool HPI.out
              have f6 := A6.out.free i
              have X6 := hide (GX.out.below GI.out)
              have O6 := hide (GO.out.below GI.out)
              have co6 : wr.cell? ⟨ob, oo + t, none⟩ = some (.int .i64 (i : Int)) := by
                have h0 := co
                unfold World.cell? at h0 ⊢
                rw [GH.out]; exact h0
              go_wp2_with fail
              go_roundg go
              case rel =>
                refine ⟨t + 1, pl.set i true, by go_num, by omega, by omega, (show _ = _ by rw [List.length_set]; exact GL.out), HTT.out, ?_, (GB.out.trans (GI.out.mono GB.out.size)).setCell HAW.out _, X6.out.other _ _ (X6.out.ne A6.out (by decide)), ?_⟩
                · have := A6.out.set i (.bool true)
                  rwa [map_set Value.bool] at this
                · exact OwnN.other O6.out (fun b e => by
                    obtain ⟨cur, hcur⟩ := O6.out.has b e
                    exact BoxT.ne (t := 3) hcur A6.out (by decide))
              case measure => omega
        · have bt : ¬ (t : Int) < (ns.length : Int) := by omega
          go_wp2_with fail
          go_ret
          exact ⟨ret_bool (by simp), GB.out⟩
    · have hrb : (r != 0) = true := by simp [hr0]
      clear hr0 hr
      go_wp2_with fail
      go_ret
      exact ⟨rfl, B3.out⟩
end Go.Proofs.Ytecaghjddoajmaa
