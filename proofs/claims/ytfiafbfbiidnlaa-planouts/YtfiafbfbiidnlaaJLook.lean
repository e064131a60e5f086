/-
  look: who may come next is sought out.
-/
import Derived.Test.YtfiafbfbiidnlaaJNode
import Derived.WalkMore
namespace Go.Proofs.Ytfiafbfbiidnlaa
open Go.RowKit

set_option maxRecDepth 100000 in
theorem there_any (w : World) (x : Int) (ao : Option Addr) (n c : Nat) : Calls Try.prog 66 #[.int .i64 x, .slice ao n c] w fun e w' => e = .returned (.bool (decide (¬ (x < 0 ∨ (n : Int) ≤ x)))) ∧ w = w' := by
  by_cases h0 : 0 ≤ x
  · by_cases h1 : x < (n : Int)
    · have hd : decide (¬ (x < 0 ∨ (n : Int) ≤ x)) = true := by simp; omega
      rw [hd]
      go_enter Try.func66, Try.ntmps66
      go_wp2
      go_ret
      simp
    · have hd : decide (¬ (x < 0 ∨ (n : Int) ≤ x)) = false := by simp; omega
      rw [hd]
      go_enter Try.func66, Try.ntmps66
      go_wp2
      go_ret
      simp
  · have hd : decide (¬ (x < 0 ∨ (n : Int) ≤ x)) = false := by simp; omega
    rw [hd]
    go_enter Try.func66, Try.ntmps66
    go_wp2
    go_ret
    simp
theorem Ln.cells {base : Nat} {w : World} {K A P B n : Nat} {nv : Value} {pl : List Bool} {ps : List Nat} {vs : List Value} {bs : List (List Nat)} {rv : Value} {rs : List Nat} {C : List (Value × List Nat)} (h : Ln base w K A P B n nv pl ps vs bs rv rs C) :
    w.cell? ⟨K, 0, none⟩ = some nv ∧ w.cell? ⟨K, 1, none⟩ = some (.slice (some ⟨A, 0, none⟩) n n) ∧ w.cell? ⟨K, 2, none⟩ = some (.slice (some ⟨P, 0, none⟩) n n) ∧ w.cell? ⟨K, 3, none⟩ = some (.slice (some ⟨B, 0, none⟩) n n) ∧ w.cell? ⟨K, 4, none⟩ = some rv := h.hp.box.cells5
theorem Ln.atP {base : Nat} {w : World} {K A P B n : Nat} {nv : Value} {pl : List Bool} {ps : List Nat} {vs : List Value} {bs : List (List Nat)} {rv : Value} {rs : List Nat} {C : List (Value × List Nat)} (h : Ln base w K A P B n nv pl ps vs bs rv rs C) {i p : Nat} (hp : ps[i]? = some p) :
    w.cell? ⟨P, i, none⟩ = some (.int .i64 (p : Int)) ∧ w.frozen? ⟨P, i, none⟩ = false := by
  refine ⟨?_, h.bp.free i⟩
  rw [h.bp.cellAt]; simp [hp]
theorem Ln.atA {base : Nat} {w : World} {K A P B n : Nat} {nv : Value} {pl : List Bool} {ps : List Nat} {vs : List Value} {bs : List (List Nat)} {rv : Value} {rs : List Nat} {C : List (Value × List Nat)} (h : Ln base w K A P B n nv pl ps vs bs rv rs C) {i : Nat} {b : Bool} (hp : pl[i]? = some b) :
    w.cell? ⟨A, i, none⟩ = some (.bool b) ∧ w.frozen? ⟨A, i, none⟩ = false := by
  refine ⟨?_, h.ba.free i⟩
  rw [h.ba.cellAt]; simp [hp]
theorem Ln.atB {base : Nat} {w : World} {K A P B n : Nat} {nv : Value} {pl : List Bool} {ps : List Nat} {vs : List Value} {bs : List (List Nat)} {rv : Value} {rs : List Nat} {C : List (Value × List Nat)} (h : Ln base w K A P B n nv pl ps vs bs rv rs C) {i : Nat} {v : Value} (hp : vs[i]? = some v) :
    w.cell? ⟨B, i, none⟩ = some v ∧ w.frozen? ⟨B, i, none⟩ = false := by
  refine ⟨?_, h.bb.free i⟩
  rw [h.bb.cellAt]; simpa using hp
theorem Ln.row {base : Nat} {w : World} {K A P B n : Nat} {nv : Value} {pl : List Bool} {ps : List Nat} {vs : List Value} {bs : List (List Nat)} {rv : Value} {rs : List Nat} {C : List (Value × List Nat)} (h : Ln base w K A P B n nv pl ps vs bs rv rs C) {v : Value} {l : List Nat} (hC : (v, l) ∈ C) : OwnN base w v l := h.co _ hC
theorem Ln.atW {base : Nat} {w : World} {K A P B n : Nat} {nv : Value} {pl : List Bool} {ps : List Nat} {vs : List Value} {bs : List (List Nat)} {rv : Value} {rs : List Nat} {C : List (Value × List Nat)} {ao : Option Addr} {m c : Nat} {wt : List Nat} (h : Ln base w K A P B n nv pl ps vs bs rv rs C) (hC : ((.slice ao m c : Value), wt) ∈ C) {t i : Nat} (ht : wt[t]? = some i) :
    ∃ g, ao = some ⟨g, 0, none⟩ ∧ w.cell? ⟨g, t, none⟩ = some (.int .i64 (i : Int)) := by
  obtain ⟨g, cap, cur, e, h2, h3, h4, h5, h6, h7⟩ := OwnN.row (h.row hC) (by intro e; rw [e] at ht; simp at ht)
  cases e
  exact ⟨g, rfl, by rw [h3.cellAt]; exact h7 t i ht⟩

theorem set_same {α : Type} {l : List α} {i : Nat} {x : α} (h : l[i]? = some x) : l.set i x = l := by
  apply List.ext_getElem?
  intro k
  rw [get_set (lt_of_get h)]
  by_cases e : k = i
  · rw [if_pos e, e, h]
  · rw [if_neg e]
theorem look1_of {inss : List (List Int)} {pl : List Bool} {s : LS} {i p : Nat} {is : List Int} (h1 : inss[i]? = some is) (h2 : s.1[i]? = some p) : look1 inss pl s i = look2 s i (sc inss.length pl (is.drop p) p) := by
  unfold look1
  rw [getD_of h1, getD_of h2]
theorem sc_end {n : Nat} {pl : List Bool} {is : List Int} {q : Nat} (h : is.length ≤ q) : sc n pl (is.drop q) q = (q, none) := by
  rw [List.drop_eq_nil_of_le h]; rfl
theorem sc_at {n : Nat} {pl : List Bool} {is : List Int} {q : Nat} {x : Int} (h : is[q]? = some x) : sc n pl (is.drop q) q = if x < 0 ∨ (n : Int) ≤ x then (q, some none) else if pl.getD x.toNat false = true then sc n pl (is.drop (q + 1)) (q + 1) else (q, some (some x.toNat)) := by
  rw [List.drop_eq_getElem_cons (lt_of_get h)]
  have e : is[q]'(lt_of_get h) = x := by rw [List.getElem?_eq_getElem (lt_of_get h)] at h; exact Option.some.inj h
  rw [e]
  rfl

set_option maxHeartbeats 4000000 in
set_option maxRecDepth 100000 in
theorem look_any {base : Nat} {w : World} {K A P B n : Nat} {nv : Value} {pl : List Bool} {ps : List Nat} {vs : List Value} {bs : List (List Nat)} {rv : Value} {rs : List Nat} {wv : Value} {wt : List Nat} {C : List (Value × List Nat)} {ns : List Nd}
    (h : Ln base w K A P B n nv pl ps vs bs rv rs C) (hC : (wv, wt) ∈ C) (hj : JobIn base w nv ns) (hI : Inv (ns.map Nd.ins) pl ps bs rs wt) (hn : n ≤ 400) (hb : base ≤ w.heap.size) :
    Calls Try.prog 69 #[.pointer (some ⟨K, 0, none⟩), wv] w fun e w' => e = .returned (.tuple #[]) ∧ ∃ vs' rv', Ln base w' K A P B n nv pl (lookP (ns.map Nd.ins) pl (ps, bs, rs) wt).1 vs' (lookP (ns.map Nd.ins) pl (ps, bs, rs) wt).2.1 rv' (lookP (ns.map Nd.ins) pl (ps, bs, rs) wt).2.2 C ∧ Below base w w' := by
  obtain ⟨wa, wc, rfl⟩ := (h.row hC).shape
  have HC := hide hC
  obtain ⟨na, ncp, rfl⟩ := hj.shape
  have hlen : ns.length = n := by have := hI.l1; rw [List.length_map] at this; rw [← this]; exact h.lp
  have hwt : wt.length ≤ 400 := by have := hI.wt_le; rw [List.length_map] at this; omega
  obtain ⟨R, hR⟩ : ∃ R, lookP (ns.map Nd.ins) pl (ps, bs, rs) wt = R := ⟨_, rfl⟩
  rw [hR]
  have HR : Hid (lookP (ns.map Nd.ins) pl (ps, bs, rs) (wt.drop 0) = R) := hR
  have H0 := hide h
  have HJ := hide hj
  have HI := hide hI
  have HB := hide hb
  have HL := hide hlen
  clear h hj hI hR hb hlen hC
  go_enter Try.func69, Try.ntmps69
  go_wp2_with fail
  go_step3
  go_wp2_with fail
  go_step3
  go_wp2_with fail
  go_loopg [10] (wt.length + 1) (fun g iv wr => ∃ (t : Nat) (s : LS) (vs' : List Value) (rv' : Value), iv = .int .i64 (t : Int) ∧ t ≤ wt.length ∧ wt.length + 1 ≤ g + t ∧ Hid (Ln base wr K A P B n (.slice na ns.length ncp) pl s.1 vs' s.2.1 rv' s.2.2 C) ∧
    Hid (Inv (ns.map Nd.ins) pl s.1 s.2.1 s.2.2 (wt.drop t)) ∧ Hid (lookP (ns.map Nd.ins) pl s (wt.drop t) = R) ∧ Hid (Below base w wr))
  case atStart => exact ⟨0, (ps, bs, rs), vs, rv, rfl, by omega, by omega, H0, HI, HR, Below.refl _ _⟩
  case round =>
    obtain ⟨t, s, vs', rv', rfl, ht, hg, GL, GI, GR, GB⟩ := hrel
    obtain ⟨go, rfl⟩ : ∃ go, gk = go + 1 := ⟨gk - 1, by omega⟩
    by_cases hlt : t < wt.length
    · obtain ⟨i, hi⟩ := get_of_lt hlt
      have hdrop : wt.drop t = i :: wt.drop (t + 1) := by rw [List.drop_eq_getElem_cons hlt]; congr 1; rw [List.getElem?_eq_getElem hlt] at hi; exact Option.some.inj hi
      have GI1 : Hid (Inv (ns.map Nd.ins) pl s.1 s.2.1 s.2.2 (i :: wt.drop (t + 1))) := by have := GI.out; rw [hdrop] at this; exact this
      have GR1 : Hid (lookP (ns.map Nd.ins) pl (look1 (ns.map Nd.ins) pl s i) (wt.drop (t + 1)) = R) := by have := GR.out; rw [hdrop] at this; exact this
      clear hdrop GI GR
      obtain ⟨q0, rfl, cw⟩ := GL.out.atW HC.out hi
      have hpi := (GI1.out.wr i (by simp)).1
      have hin : i < n := by rw [← GL.out.lp]; exact lt_of_get hpi
      obtain ⟨nd, hnd⟩ := get_of_lt (l := ns) (i := i) (by rw [HL.out]; exact hin)
      have hins : (ns.map Nd.ins)[i]? = some nd.ins := by rw [List.getElem?_map, hnd]; rfl
      obtain ⟨p, hp⟩ := get_of_lt (l := s.1) (i := i) (by rw [GL.out.lq]; exact hin)
      obtain ⟨k0, k1, k2, k3, k4⟩ := GL.out.cells
      obtain ⟨nb, no, rfl, nlt, -, ci, -⟩ := (HJ.out.below GB.out).at_ hnd
      have hlenI := ((HJ.out.ins nd (List.mem_of_getElem? hnd)))
      have hil : nd.ins.length ≤ 140737488355328 := by
        obtain ⟨_, _, _, h2, _⟩ := hlenI
        exact h2
      have HP := hide hp
      have HIN := hide hins
      have HLI := hide hlenI
      have HPI := hide hpi
      have bi1 : (t : Int) < (wt.length : Int) := by omega
      have bi2 : (i : Int) < (ns.length : Int) := by rw [HL.out]; omega
      clear hp hnd hins hlenI hpi hi
      obtain ⟨kd, ia, icp, ins, par, ex, ag, wk, ws, wl⟩ := nd
      dsimp only at ci hil HIN HLI
      obtain ⟨r0, hr0⟩ : ∃ r0, sc n pl (ins.drop p) p = r0 := ⟨_, rfl⟩
      have HLK : Hid (look1 (ns.map Nd.ins) pl s i = look2 s i r0) := by
        have := look1_of (pl := pl) HIN.out HP.out
        rw [List.length_map, HL.out, hr0] at this
        exact this
      have HR0 := hide hr0
      have hple : p ≤ ins.length := (GI1.out.pf i ins p HIN.out HP.out).1
      have GN := hide GI1.out.look
      clear hr0
      go_wp2_with fail
      go_loopg [7] (ins.length + 1) (fun g fv wi => ∃ q : Nat, q ≤ ins.length ∧ ins.length + 1 ≤ g + q ∧ Hid (Ln base wi K A P B n (.slice (some ⟨nb, no, none⟩) ns.length ncp) pl (s.1.set i q) vs' s.2.1 rv' s.2.2 C) ∧
        Hid (sc n pl (ins.drop q) q = r0) ∧ Hid (Below base w wi))
      case atStart => exact ⟨p, hple, by omega, by rw [set_same HP.out]; exact GL, HR0, GB⟩
      case round =>
        clear GL GB k0 k1 k2 k3 k4 cw ci HR0
        obtain ⟨q, hq, hgq, GL, HS, GB⟩ := hrel
        obtain ⟨gi, rfl⟩ : ∃ gi, gk = gi + 1 := ⟨gk - 1, by omega⟩
        obtain ⟨k0, k1, k2, k3, k4⟩ := GL.out.cells
        obtain ⟨cp, fp⟩ := GL.out.atP (i := i) (p := q) (by rw [get_set (lt_of_get HP.out), if_pos rfl])
        have bi3 : (i : Int) < (n : Int) := by omega
        by_cases hql : q < ins.length
        · have bq : (q : Int) < (ins.length : Int) := by omega
          obtain ⟨x, hx⟩ := get_of_lt hql
          obtain ⟨xb, xo, rfl, -, cx⟩ := (HLI.out.below GB.out).num hx
          have hsc := sc_at (n := n) (pl := pl) hx
          have HS2 := HS.out
          rw [hsc] at HS2
          have HTH := hide (there_any wr x (some ⟨nb, no, none⟩) ns.length ncp)
          have hln := HL.out
          by_cases hth : x < 0 ∨ (n : Int) ≤ x
          · rw [if_pos hth] at HS2
            have HLK2 : Hid (look1 (ns.map Nd.ins) pl s i = (s.1.set i q, s.2.1, s.2.2)) := by rw [HLK.out, ← HS2]; rfl
            have hdt : decide (¬ (x < 0 ∨ (ns.length : Int) ≤ x)) = false := by rw [hln]; simp; omega
            rw [hdt] at HTH
            clear HS2 hsc HS hx hth hdt hln
            go_wp2_with (go_at_call 66; refine HTH.out.mono ?_; rintro e w1 ⟨rfl, rfl⟩)
            go_roundg go
            case rel =>
              rw [HLK2.out] at GN GR1
              exact ⟨t + 1, (s.1.set i q, s.2.1, s.2.2), vs', rv', by go_num, by omega, by omega, GL, GN, GR1, GB⟩
            case measure => omega
          · rw [if_neg hth] at HS2
            obtain ⟨f, rfl⟩ : ∃ f : Nat, x = (f : Int) := ⟨x.toNat, by omega⟩
            have hfn : f < n := by omega
            rw [Int.toNat_natCast] at HS2
            have hdt : decide (¬ ((f : Int) < 0 ∨ (ns.length : Int) ≤ (f : Int))) = true := by rw [hln]; simp; omega
            rw [hdt] at HTH
            obtain ⟨bf, hbf⟩ := get_of_lt (l := pl) (i := f) (by rw [GL.out.lp]; exact hfn)
            obtain ⟨ca, fa⟩ := GL.out.atA hbf
            rw [getD_of hbf] at HS2
            have bf1 : (f : Int) < (n : Int) := by omega
            cases bf with
            | true =>
              rw [if_pos rfl] at HS2
              have HS3 := hide HS2
              clear HS2 hsc HS hx hth hdt hbf hln
              go_wp2_with (go_at_call 66; refine HTH.out.mono ?_; rintro e w1 ⟨rfl, rfl⟩)
              go_roundg gi
              case rel =>
                have HL2 := GL.out.pass i (q + 1)
                rw [List.set_set, show (((q + 1 : Nat)) : Int) = (q : Int) + 1 from by omega] at HL2
                exact ⟨q + 1, by omega, by omega, HL2, HS3, GB.out.setCell GL.out.kP _⟩
              case measure => omega
            | false =>
              rw [if_neg (by decide)] at HS2
              obtain ⟨v, hv⟩ := get_of_lt (l := vs') (i := f) (by rw [GL.out.lv]; exact hfn)
              obtain ⟨b, hb⟩ := get_of_lt (l := s.2.1) (i := f) (by rw [GL.out.lb]; exact hfn)
              have HLK2 : Hid (look1 (ns.map Nd.ins) pl s i = (s.1.set i q, s.2.1.set f (b ++ [i]), s.2.2)) := by rw [HLK.out, ← HS2]; show (s.1.set i q, s.2.1.set f (s.2.1.getD f [] ++ [i]), s.2.2) = _; rw [getD_of hb]
              obtain ⟨cb, fb⟩ := GL.out.atB hv
              have hbl : b.length ≤ 1000000 := by
                have := GI1.out.bs_le hbf hb
                rw [List.length_map, hln] at this
                omega
              have H5 := hide (GL.out.below (w' := wr.drew.alloc (.cells #[.int .i64 (i : Int)] 3)) (((Below.refl _ _).drew).alloc (by simp) _))
              have k5 : (wr.alloc (.cells #[.int .i64 (i : Int)] 3)).cell? ⟨K, 3, none⟩ = some (.slice (some ⟨B, 0, none⟩) n n) := H5.out.cells.2.2.2.1
              have k6 : (wr.alloc (.cells #[.int .i64 (i : Int)] 3)).cell? ⟨B, f, none⟩ = some v := (H5.out.atB hv).1
              have hbase : base ≤ wr.heap.size := Nat.le_trans HB.out GB.out.size
              have HV := hide hv
              have HBB := hide hb
              have HBF := hide hbf
              obtain ⟨va, vc, rfl⟩ := (GL.out.be f v b hbf hv hb).shape
              clear HS2 hsc HS hx hth hdt hbf hln hv hb
              go_wp2_with (go_at_call 66; refine HTH.out.mono ?_; rintro e w1 ⟨rfl, rfl⟩)
              go_region_law (refine step_ownN (by kernel_rfl) rfl _ _ rfl base _ b rfl (H5.out.be f _ b HBF.out HV.out HBB.out) ⟨wr.heap.size, 0, none⟩ 1 i rfl (by simp) hbl (by simp; omega) ?_; intro v1 w1 h1 g1 o1; obtain ⟨a1, p1, hv1⟩ := h1.shape; rw [List.length_append, List.length_singleton] at hv1; subst hv1; have H6 := hide (H5.out.wait HBF.out HV.out HBB.out h1 g1 o1); have kk := BoxT.grownO H5.out.bb g1 (fun e => by obtain ⟨cur, hc⟩ := (H5.out.be f _ b HBF.out HV.out HBB.out).has B e.symm; exact H5.out.bb.ne (t' := 3) hc (by decide) rfl); have k7 := (kk.cellAt f).trans (show _ = some _ by simpa using HV.out); have k8 := kk.free f; have k9 := (BoxT.grownO H5.out.hp.box g1 (fun e => by obtain ⟨cur, hc⟩ := (H5.out.be f _ b HBF.out HV.out HBB.out).has K e.symm; exact H5.out.hp.box.ne (t' := 3) hc (by decide) rfl)).cells5.2.2.2.1)
              all_goals
                go_wp2_with fail
                go_roundg go
                case rel =>
                  have hb7 : Below base w w1 := by
                    refine GB.out.trans (Below.trans (((Below.refl base wr).drew).alloc hbase _) ⟨g1.os, g1.tape, g1.output, g1.size, fun k hk => g1.block k (by simp; omega) (fun e => ?_)⟩)
                    have := (H5.out.be f _ b HBF.out HV.out HBB.out).at k e.symm
                    omega
                  rw [HLK2.out] at GN GR1
                  exact ⟨t + 1, (s.1.set i q, s.2.1.set f (b ++ [i]), s.2.2), _, rv', by go_num, by omega, by omega, H6, GN, GR1, hb7.setCell GL.out.kB _⟩
                case measure => omega
        · have hqe : q = ins.length := by omega
          have HLK2 : Hid (look1 (ns.map Nd.ins) pl s i = (s.1.set i q, s.2.1, pushP s.2.2 i)) := by
            have := HS.out
            rw [sc_end (by omega)] at this
            rw [HLK.out, ← this]; rfl
          have bq : ¬ (q : Int) < (ins.length : Int) := by omega
          have hbase : base ≤ wr.heap.size := Nat.le_trans HB.out GB.out.size
          have hrl : s.2.2.length ≤ 500 := by
            have := GI1.out.rs_le
            rw [List.length_map, HL.out] at this
            omega
          have HPU := hide (push_any GL.out.hp i hrl hbase)
          clear HS hqe
          go_wp2_with (go_at_call 74; refine HPU.out.mono ?_; rintro e w1 ⟨rfl, rv1, h1, t1⟩)
          go_roundg go
          case rel =>
            rw [HLK2.out] at GN GR1
            exact ⟨t + 1, (s.1.set i q, s.2.1, pushP s.2.2 i), vs', rv1, by go_num, by omega, by omega, GL.out.heap h1 t1, GN, GR1, GB.out.trans (GL.out.heapBelow t1)⟩
          case measure => omega
    · have HE : Hid (s = R) := by
        have := GR.out
        rw [List.drop_eq_nil_of_le (by omega)] at this
        exact this
      have bi1 : ¬ (t : Int) < (wt.length : Int) := by omega
      clear GR
      go_wp2_with fail
      go_end0
      rw [← HE.out]
      exact ⟨rfl, vs', rv', GL.out, GB.out⟩
end Go.Proofs.Ytfiafbfbiidnlaa
