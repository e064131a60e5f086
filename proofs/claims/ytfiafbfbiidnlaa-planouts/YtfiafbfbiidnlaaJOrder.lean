/-
  place and Order.
-/
import Derived.Test.YtfiafbfbiidnlaaJLine
namespace Go.Proofs.Ytfiafbfbiidnlaa
open Go.RowKit

set_option maxHeartbeats 4000000 in
set_option maxRecDepth 100000 in
theorem place_any {base : Nat} {w : World} {K A P B n : Nat} {nv : Value} {pl : List Bool} {s : LS} {vs : List Value} {rv : Value} {C : List (Value × List Nat)} {ns : List Nd}
    (h : Ln base w K A P B n nv pl s.1 vs s.2.1 rv s.2.2 C) (hj : JobIn base w nv ns) (hI : Inv (ns.map Nd.ins) pl s.1 s.2.1 s.2.2 []) (hn : n ≤ 400) (hb : base ≤ w.heap.size) (hr : s.2.2 ≠ []) :
    Calls Try.prog 63 #[.pointer (some ⟨K, 0, none⟩)] w fun e w' => ∃ (i : Nat) (r : List Nat) (vs' : List Value) (rv' : Value), popL s.2.2 = r ++ [i] ∧ e = .returned (.int .i64 (i : Int)) ∧
      Ln base w' K A P B n nv (pl.set i true) (lookP (ns.map Nd.ins) (pl.set i true) (s.1, s.2.1, r) (s.2.1.getD i [])).1 vs' (lookP (ns.map Nd.ins) (pl.set i true) (s.1, s.2.1, r) (s.2.1.getD i [])).2.1 rv' (lookP (ns.map Nd.ins) (pl.set i true) (s.1, s.2.1, r) (s.2.1.getD i [])).2.2 C ∧
      Inv (ns.map Nd.ins) (pl.set i true) (lookP (ns.map Nd.ins) (pl.set i true) (s.1, s.2.1, r) (s.2.1.getD i [])).1 (lookP (ns.map Nd.ins) (pl.set i true) (s.1, s.2.1, r) (s.2.1.getD i [])).2.1 (lookP (ns.map Nd.ins) (pl.set i true) (s.1, s.2.1, r) (s.2.1.getD i [])).2.2 [] ∧ pl[i]? = some false ∧ Below base w w' := by
  have hlen : ns.length = n := by have := hI.l1; rw [List.length_map] at this; rw [← this]; exact h.lp
  have hrl : s.2.2.length ≤ 500 := by
    have := hI.rs_le
    rw [List.length_map] at this
    omega
  have HPO := hide (pop_any h.hp hr hrl)
  have H0 := hide h
  have HJ := hide hj
  have HI := hide hI
  have HB := hide hb
  have HR := hide hr
  have HLN := hide hlen
  clear h hj hI hr hlen
  go_enter Try.func63, Try.ntmps63
  go_wp2_with (first
    | (go_at_call 70; refine HPO.out.mono ?_; rintro e w1 ⟨i, r, hpl, rfl, rv1, h1, t1⟩
       have ht : ∀ W : World, (Instr.typeAssert (.iface 3 (.int .i64 (i : Int))) 20 3 false).run Try.prog W = .ok (.int .i64 (i : Int)) W := fun _ => by kernel_rfl
       have L1 := hide (H0.out.heap h1 t1)
       have B1 := hide (H0.out.heapBelow t1)
       have HPM : Hid (s.2.2.Perm (r ++ [i])) := by rw [← hpl]; exact (popL_perm HR.out).symm
       have hpi := (HI.out.rr i (HPM.out.mem_iff.2 (by simp))).1
       have hin : i < n := by rw [← H0.out.lp]; exact lt_of_get hpi
       obtain ⟨v, hv⟩ := get_of_lt (l := vs) (i := i) (by rw [H0.out.lv]; exact hin)
       obtain ⟨b, hbb⟩ := get_of_lt (l := s.2.1) (i := i) (by rw [H0.out.lb]; exact hin)
       have HPL := hide hpl
       have HPI := hide hpi
       obtain ⟨k0, k1, k2, k3, k4⟩ := L1.out.cells
       obtain ⟨ca, fa⟩ := L1.out.atA hpi
       have L2 := hide (L1.out.place hpi hv hbb)
       have HGD := hide (getD_of (d := []) hbb)
       have B2 := hide (B1.out.setCell (p := ⟨A, i, none⟩) L1.out.kA (.bool true))
       obtain ⟨-, -, -, k5, -⟩ := L2.out.cells
       obtain ⟨k6, -⟩ := L2.out.atB hv
       have I2 := hide (HI.out.take HPM.out hbb)
       have HLK := hide (look_any L2.out (List.mem_cons_self ..) (HJ.out.below B2.out) I2.out hn (Nat.le_trans HB.out B2.out.size))
       have bi : (i : Int) < (n : Int) := by omega
       clear hpl h1 t1 hpi hv hbb)
    | (go_at_call 69; refine HLK.out.mono ?_; rintro e w3 ⟨rfl, vs3, rv3, h3, b3⟩))
  go_ret
  have I3 := Inv.looks (s := (s.1, s.2.1, r)) (rest := []) b (by rw [List.append_nil]; exact I2.out)
  refine ⟨i, r, vs3, rv3, HPL.out, rfl, ?_, ?_, HPI.out, B2.out.trans b3⟩
  · rw [HGD.out]; exact h3.less (fun c hc => List.mem_cons_of_mem _ hc)
  · rw [HGD.out]; exact I3

/-- append of one number onto a row of one's own. -/
theorem app_ownN {sl : TypeId} (hund : Try.prog.underlying sl = some (.slice 3)) {w : World} {ops : Array Oper} {rest : List Oper} {o : Oper} {a : Act} {Q : Exit → Act → World → Prop} (hgd : o.guard = none) (s x : Operand)
    (ho : o.op = .call { callee := .builtin .append, args := #[s, x], argTypes := #[sl, sl] }) (base : Nat) (v : Value) (l : List Nat) (hs : a.eval s = v) (hown : OwnN base w v l)
    (ad : Addr) (c : Nat) (y : Nat) (hx : a.eval x = .slice (some ad) 1 c) (hnews : w.cell? ad = some (.int .i64 (y : Int))) (hl : l.length ≤ 1000000) (hbase : base ≤ w.heap.size)
    (h : ∀ v' w', OwnN base w' v' (l ++ [y]) → w.grownBy w' v.ownBlock → (∀ g, v'.ownBlock = some g → v.ownBlock = some g ∨ w.heap.size ≤ g) → wpList Try.prog ops Q rest (a.put o.dst v') w') : wpList Try.prog ops Q (o :: rest) a w := by
  obtain ⟨i0, hi, hz0, hz1, hz2⟩ := info_parts Try.info3'
  refine wpList_append_own_at w hgd s x sl ho base 3 i0 (.int .i64 0) 1 8 hund hi hz0 hz1 hz2 rfl (by omega) v l.length (l.flatMap nc) hs hown ad 1 c (nc y) hx rfl
    (fun j u hj => by match j, hj with | 0, hj => simp [nc] at hj; subst hj; rw [show ad.add 0 = ad from if_pos rfl]; exact hnews) (nc_one y) (by unfold maxLen; omega) (by omega) hbase ?_
  intro v' w' h2 h3 _ h5
  refine h v' w' ?_ h3 (fun g e => ?_)
  · show w'.ownsRow _ _ _ _ _ _
    rw [List.length_append, List.flatMap_append]; simpa using h2
  · rcases h5 with h5 | h5
    · exact .inl (h5 ▸ e)
    · rw [h5] at e; cases e; exact .inr (Nat.le_refl _)

set_option maxHeartbeats 4000000 in
set_option maxRecDepth 100000 in
theorem Order_any {w : World} {v : Value} {ns : List Nd} (hj : JobIn w.heap.size w v ns) (hn : ns.length ≤ 400) :
    Calls Try.prog 52 #[.agg #[v]] w fun e w' => ∃ rv, e = .returned rv ∧ OwnN w.heap.size w' rv (ordC (ns.map Nd.ins)) ∧ Below w.heap.size w w' := by
  obtain ⟨na, ncp, rfl⟩ := hj.shape
  have hb0 : Below w.heap.size w (w.alloc (.cells #[.slice na ns.length ncp] 24)) := (Below.refl _ _).alloc (Nat.le_refl _) _
  have HNL := hide (newLine_any ((hj.below hb0).mono hb0.size) hn)
  have HJ := hide hj
  have HB := hide hb0
  obtain ⟨R, hR⟩ : ∃ R, ordC (ns.map Nd.ins) = R := ⟨_, rfl⟩
  rw [hR]
  have hlm : (ns.map Nd.ins).length = ns.length := by simp
  have HR : Hid (ordP (ns.map Nd.ins) (ns.length + 1) (List.replicate ns.length false) (start (ns.map Nd.ins)) = R) := by
    have := hR
    unfold ordC at this
    rw [hlm] at this
    exact this
  have HI0 : Hid (Inv (ns.map Nd.ins) (List.replicate ns.length false) (start (ns.map Nd.ins)).1 (start (ns.map Nd.ins)).2.1 (start (ns.map Nd.ins)).2.2 []) := by
    have := Inv.looks (inss := ns.map Nd.ins) (pl := List.replicate (ns.map Nd.ins).length false) (rest := []) (List.range (ns.map Nd.ins).length) (s := (List.replicate (ns.map Nd.ins).length 0, List.replicate (ns.map Nd.ins).length [], [])) (by rw [List.append_nil]; exact Inv.init _)
    unfold start
    rw [hlm] at this ⊢
    exact this
  clear hj hb0 hR hlm
  go_enter Try.func52, Try.ntmps52
  go_wp2_with (go_at_call 62; refine HNL.out.mono ?_; rintro e w1 ⟨K, A, P, B, vs, rv, rfl, h1, b1⟩; have L1 := hide h1; have B1 := hide b1; clear h1 b1)
  have L2 := hide (L1.out.more (w' := w1.alloc (.cells #[] 3)) ((Below.refl _ _).alloc (Nat.le_refl _) _) (v := .slice (some ⟨w1.heap.size, 0, none⟩) 0 0) (l := []) (OwnN.mk (l := []) B1.out.size (BoxT.new 3 w1 #[]) (by simp) (by simp) (by simp) (fun i x hx => by simp at hx)) (fun g e => by simp [Value.ownBlock] at e; omega))
  have B2 := hide (B1.out.trans ((Below.refl _ w1).alloc B1.out.size (.cells #[] 3)))
  clear L1 B1 HNL
  generalize hbw : (w.alloc (.cells #[.slice na ns.length ncp] 24)) = w0 at *
  have hbz : w0.heap.size = w.heap.size + 1 := by rw [← hbw]; simp
  have HW := hide hbw
  clear hbw
  have HZ := hide hbz
  clear hbz
  have HJ0 := hide ((HJ.out.below HB.out).mono HB.out.size)
  go_loopg [4] (ns.length + 1) (fun g ov wr => ∃ (pl : List Bool) (s : LS) (vs : List Value) (rv : Value) (out : List Nat), Hid (Ln w0.heap.size wr K A P B ns.length (.slice na ns.length ncp) pl s.1 vs s.2.1 rv s.2.2 [(ov, out)]) ∧ Hid (Inv (ns.map Nd.ins) pl s.1 s.2.1 s.2.2 []) ∧
    Hid (out ++ ordP (ns.map Nd.ins) g pl s = R) ∧ left pl + 1 ≤ g ∧ out.length + left pl ≤ ns.length ∧ Hid (Below w0.heap.size w0 wr))
  case atStart => exact ⟨_, start (ns.map Nd.ins), vs, rv, [], L2, HI0, HR, by rw [left_all]; omega, by rw [left_all]; simp, B2⟩
  case round =>
    obtain ⟨pl, s, vs', rv', out, GL, GI, GR, g1, g2, GB⟩ := hrel
    obtain ⟨k0, k1, k2, k3, k4⟩ := GL.out.cells
    obtain ⟨ra, rc, rfl⟩ := GL.out.hp.own.shape
    obtain ⟨g, rfl⟩ : ∃ g, gk = g + 1 := ⟨gk - 1, by omega⟩
    have hrl : s.2.2.length ≤ 500 := by
      have := GI.out.rs_le
      rw [List.length_map] at this
      omega
    by_cases hr : s.2.2 = []
    · have GR2 : Hid (out = R) := by
        have := GR.out
        rw [ordP_nil hr, List.append_nil] at this
        exact this
      have hr0 : s.2.2.length = 0 := by rw [hr]; rfl
      rw [hr0] at k4
      clear GR hr
      go_wp2_with fail
      go_ret
      rw [← GR2.out]
      refine ⟨_, rfl, ?_, ?_⟩
      · have := GL.out.row (v := u4) (l := out) (by simp)
        exact this.mono (by rw [HZ.out]; omega)
      · exact HB.out.trans (GB.out.mono HB.out.size)
    · have hpos : (0 : Int) < (s.2.2.length : Int) := by have := List.length_pos_iff.2 hr; omega
      have HPL := hide (place_any GL.out (HJ0.out.below GB.out) GI.out (by omega) GB.out.size hr)
      have HRN := hide hr
      have hol : out.length ≤ 1000000 := by omega
      clear hr
      go_wp2_with (first
        | (go_at_call 63; refine HPL.out.mono ?_; rintro e w3 ⟨i, r, vs3, rv3, hp3, rfl, h3, i3, p3, b3⟩; have L3 := hide h3; have I3 := hide i3; have HP3 := hide hp3; have P3 := hide p3; have B3 := hide b3; clear h3 i3 hp3 p3 b3)
        | (at_builtin; refine app_ownN (by kernel_rfl) rfl _ _ rfl w0.heap.size u4 out rfl ((L3.out.row (v := u4) (l := out) (by simp)).alloc _) ⟨w3.heap.size, 0, none⟩ 1 i rfl (by simp) hol (by have := GB.out.size; have := B3.out.size; simp; omega) ?_; intro v4 w4 h4 g4 n4))
      go_roundg g
      case rel =>
        have L4 := (L3.out.below ((Below.refl _ _).alloc (Nat.le_refl _) (.cells #[.int .i64 (i : Int)] 3))).grow h4 g4 n4
        have hset := left_set P3.out
        refine ⟨pl.set i true, _, vs3, rv3, out ++ [i], L4, I3, ?_, by omega, by simp; omega, ?_⟩
        · have := GR.out
          rw [ordP_cons HRN.out HP3.out] at this
          show (out ++ [i]) ++ _ = R
          rw [List.append_assoc]
          exact this
        · refine GB.out.trans (B3.out.trans (((Below.refl _ _).alloc (by have := GB.out.size; have := B3.out.size; omega) (.cells #[.int .i64 (i : Int)] 3)).trans ⟨g4.os, g4.tape, g4.output, g4.size, fun k hk => g4.block k (by have := GB.out.size; have := B3.out.size; simp; omega) (fun e => ?_)⟩))
          have := (L3.out.row (v := u4) (l := out) (by simp)).at k e.symm
          omega
      case measure => omega
end Go.Proofs.Ytfiafbfbiidnlaa
