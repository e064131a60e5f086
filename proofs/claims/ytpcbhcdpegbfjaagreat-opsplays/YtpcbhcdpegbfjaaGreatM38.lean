/-
  Texts in build order: ZPRLight.
-/
import Derived.Test.YtpcbhcdpegbfjaaGreatM31
import Derived.Test.YtpcbhcdpegbfjaaGreatM32
import Derived.Test.YtpcbhcdpegbfjaaGreatM33
import Derived.Test.YtpcbhcdpegbfjaaGreatM34
import Derived.Test.YtpcbhcdpegbfjaaGreatM35
import Derived.Test.YtpcbhcdpegbfjaaGreatM36
import Derived.Test.YtpcbhcdpegbfjaaGreatM37
/-
 The document's node and light, of any job: what they take the program takes too.
-/
namespace Go.Proofs.YtpcbhcdpegbfjaaGreat.J
set_option maxHeartbeats 16000000
set_option maxRecDepth 100000
open Go.RowKit
theorem rnode_bad {w : World} {na : Option Addr} {nl ncp : Nat} {ns : List Nd} (n : Nd) (hk : n.kind < 1 ∨ 8 < n.kind) : Calls Tryz.prog 47 #[.agg #[.slice na nl ncp], n.val] w (RN w ns n) := by
 obtain ⟨kd, ia, icp, ins, par, ⟨eo, en, ea, ec, el⟩, ag, wk, ws, wl⟩ := n
 unfold Nd.val RN
 simp only at *
 generalize ckE ns _ = CKE at *
 have HB : Hid (Below w.heap.size w ((w.alloc (.cells #[.slice na nl ncp] 62)).alloc (.cells #[.int .i64 kd, .slice ia ins.length icp, .int .i64 par, .int .i64 eo, .int .i64 en, .slice ea el.length ec, .int .i64 ag, .int .i64 wk, .int .i64 ws, .int .i64 wl] 29))) := ((Below.refl _ _).alloc (Nat.le_refl _) _).alloc (by simp) _
 by_cases h1 : kd < 1
 ·go_enter Tryz.func47, Tryz.ntmps47
  go_wp2_with fail
  go_ret
  exact ⟨81, rfl, (fun h => by cases h), HB.out⟩
 ·have h8 : (8 : Int) < kd := by omega
  go_enter Tryz.func47, Tryz.ntmps47
  go_wp2_with fail
  go_ret
  exact ⟨81, rfl, (fun h => by cases h), HB.out⟩
def ExR (w : World) (ns : List Nd) : Prop := ∀ n ∈ ns, ∀ w', Below w.heap.size w w' → Calls Tryz.prog 52 #[n.e.val] w' fun e w'' => e = .returned (.int .i64 (chk n.e)) ∧ Below w'.heap.size w' w''
theorem ExR.below {w w' : World} {ns : List Nd} (h : ExR w ns) (hb : Below w.heap.size w w') : ExR w' ns := fun n hn w2 h2 => h n hn w2 (hb.trans (h2.mono hb.size))
theorem rnode_any {w : World} {v : Value} {ns : List Nd} {n : Nd} (hn : n ∈ ns) (hj : JobIn w.heap.size w v ns) (hx : ExR w ns) : Calls Tryz.prog 47 #[.agg #[v], n.val] w (RN w ns n) := by
 have hi := hj.ins n hn
 have hex := hx n hn
 by_cases hk : n.kind < 1 ∨ 8 < n.kind
 ·obtain ⟨na, ncp, rfl⟩ := hj.shape
  exact rnode_bad n hk
 obtain ⟨kd, ia, icp, ins, par, ⟨eo, en, ea, ec, el⟩, ag, wk, ws, wl⟩ := n
 unfold Nd.val
 simp only at *
 have h8 : kd = 1 ∨ kd = 2 ∨ kd = 3 ∨ kd = 4 ∨ kd = 5 ∨ kd = 6 ∨ kd = 7 ∨ kd = 8 := by omega
 clear hk
 rcases h8 with rfl | rfl | rfl | rfl | rfl | rfl | rfl | rfl
 ·exact rnode1 ia icp ins par eo en ea ec el ag wk ws wl hj hi hex
 ·exact rnode234 (by simp) ia icp ins par eo en ea ec el ag wk ws wl hj hi hex
 ·exact rnode234 (by simp) ia icp ins par eo en ea ec el ag wk ws wl hj hi hex
 ·exact rnode234 (by simp) ia icp ins par eo en ea ec el ag wk ws wl hj hi hex
 ·exact rnode5 ia icp ins par eo en ea ec el ag wk ws wl hj hi hex
 ·exact rnode6 ia icp ins par eo en ea ec el ag wk ws wl hj hi hex
 ·exact rnode7 ia icp ins par eo en ea ec el ag wk ws wl hj hi hex
 ·exact rnode8 ia icp ins par eo en ea ec el ag wk ws wl hj hi hex
def ordD (ns : List Nd) : List Nat := ordR (ns.map Nd.ins) (ns.length + 1) (List.replicate ns.length false)
theorem lo_mem {inss : List (List Int)} {pl : List Bool} {i : Nat} (h : nextR inss pl = some i) : i < inss.length ∧ cand inss pl i = true := by
 unfold nextR at h
 have h1 := List.find?_some h
 have h2 := List.mem_of_find?_eq_some h
 exact ⟨List.mem_range.1 h2, h1⟩
theorem ordR_topo {inss : List (List Int)} : ∀ (f : Nat) {pl : List Bool}, pl.length = inss.length → Topo inss pl (ordR inss f pl) := by
 intro f
 induction f with
 | zero => intro pl _; exact trivial
 | succ f ih =>
  intro pl hl
  rw [ordR]
  cases hn : nextR inss pl with
  | none => exact trivial
  | some i =>
   obtain ⟨hi, hc⟩ := lo_mem hn
   unfold cand at hc
   rw [Bool.and_eq_true, List.all_eq_true] at hc
   obtain ⟨b, hb⟩ := get_of_lt (l := pl) (i := i) (by omega)
   obtain ⟨is, his⟩ := get_of_lt (l := inss) (i := i) hi
   rw [getD_of hb, getD_of his] at hc
   have hbf : b = false := by simpa using hc.1
   subst hbf
   refine ⟨⟨hb, is, his, fun y hy => ?_⟩, ih (by rw [List.length_set]; exact hl)⟩
   have h3 := hc.2 y hy
   unfold candI at h3
   simp only [Bool.and_eq_true, decide_eq_true_eq] at h3
   obtain ⟨h4, h5, h6⟩ := h3
   obtain ⟨b2, hb2⟩ := get_of_lt (l := pl) (i := y.toNat) (by omega)
   rw [getD_of hb2] at h6
   exact ⟨h4, by rw [hb2, h6]⟩
theorem ordD_topo (ns : List Nd) : Topo (ns.map Nd.ins) (List.replicate ns.length false) (ordD ns) := ordR_topo _ (by simp)
theorem ordD_le (ns : List Nd) : (ordD ns).length ≤ ns.length := by
 have := (ordD_topo ns).len
 rwa [left_all] at this
structure LtOk (ns : List Nd) : Prop where
 l1 : 1 ≤ ns.length
 l2 : ns.length ≤ 12
 ck : ∀ n ∈ ns, ckE ns n = 0
 od : (ordD ns).length = ns.length
theorem rlightA {w : World} {v : Value} {ns : List Nd} (hj : JobIn w.heap.size w v ns) (hx : ExR w ns) :
  Calls Tryz.prog 35 #[.agg #[v]] w fun e w' => ∃ c : Int, e = .returned (.int .i64 c) ∧ (c = 0 → LtOk ns) ∧ Below w.heap.size w w' := by
 obtain ⟨na, ncp, rfl⟩ := hj.shape
 have HB := hide (below_box w (.cells #[.slice na ns.length ncp] 62))
 have HX := hide (BoxT.new 62 w #[.slice na ns.length ncp])
 by_cases h0 : ns.length = 0
 ·have l2 : ((ns.length : Int) == 0) = true := by rw [beq_iff_eq]; omega
  clear hj hx h0
  as_aux_lemma =>
  go_enter Tryz.func35, Tryz.ntmps35
  go_wp2_with fail
  go_ret
  exact ⟨80, rfl, (fun h => by cases h), HB.out⟩
 have l2 : ((ns.length : Int) == 0) = false := by rw [beq_eq_false_iff_ne]; omega
 by_cases h12 : (12 : Int) < (ns.length : Int)
 ·clear hj hx h0
  as_aux_lemma =>
  go_enter Tryz.func35, Tryz.ntmps35
  go_wp2_with fail
  go_ret
  exact ⟨80, rfl, (fun h => by cases h), HB.out⟩
 have HJ := hide hj
 have HEX := hide hx
 have l1 : (ns.length : Int) ≤ 12 := by omega
 have H1 : Hid (1 ≤ ns.length) := (show 1 ≤ _ by omega)
 have HLT : Hid ((∀ j < ns.length, ∀ n, ns[j]? = some n → ckE ns n = 0) → (ordD ns).length = ns.length → LtOk ns) := fun h1 h2 => ⟨by omega, by omega, fun n hn => by
  obtain ⟨j, hj⟩ := List.getElem?_of_mem hn
  exact h1 j (lt_of_get hj) n hj, h2⟩
 clear hj hx h0
 as_aux_lemma =>
 go_enter Tryz.func35, Tryz.ntmps35
 go_wp2_with fail
 go_loopg [3] (ns.length + 1) (fun g iv wr => ∃ t : Nat, iv = .int .i64 (t : Int) ∧ t ≤ ns.length ∧ ns.length + 1 ≤ g + t ∧ Hid (Below w.heap.size w wr) ∧ Hid (BoxT 62 wr w.heap.size #[.slice na ns.length ncp]) ∧ Hid (∀ j < t, ∀ n, ns[j]? = some n → ckE ns n = 0))
 case atStart => exact ⟨0, rfl, by omega, by omega, HB, HX, (fun j hj => by omega)⟩
 case round =>
  obtain ⟨t, rfl, ht, hg, GB, GX, GK⟩ := hrel
  obtain ⟨go, rfl⟩ : ∃ go, gk = go + 1 := ⟨gk - 1, by omega⟩
  have cx : wr.cell? ⟨w.heap.size, 0, none⟩ = some (.slice na ns.length ncp) := by rw [GX.out.cellAt]; rfl
  by_cases hlt : t < ns.length
  ·obtain ⟨n, hn⟩ := get_of_lt hlt
   have bt : (t : Int) < (ns.length : Int) := by omega
   obtain ⟨nb, no, hna, nlt, d0, d1, d2, d3, d4, d5, d6, d7, d8, d9⟩ := (HJ.out.below GB.out).at_ hn
   subst hna
   have HN : Hid (Calls Tryz.prog 47 #[.agg #[.slice (some ⟨nb, no, none⟩) ns.length ncp], n.val] wr.drew (RN wr.drew ns n)) :=
    rnode_any (w := wr.drew) (List.mem_of_getElem? hn) ((HJ.out.below GB.out.drew).mono GB.out.size) (HEX.out.below GB.out.drew)
   unfold RN at HN
   have HNX : Hid (ckE ns n = 0 → ∀ j < t + 1, ∀ n, ns[j]? = some n → ckE ns n = 0) := fun h j hj m hm => by
    rcases Nat.lt_succ_iff_lt_or_eq.1 hj with h1 | h1
    ·exact GK.out j h1 m hm
    ·subst h1
     rw [hn] at hm
     cases hm
     exact h
   clear hn nlt
   generalize ckE ns n = CKE at HN HNX
   obtain ⟨kd, ia, icp, ins, par, ⟨eo, en, ea, ec, el⟩, ag, wk, ws, wl⟩ := n
   unfold Nd.val at HN
   simp only at d0 d1 d2 d3 d4 d5 d6 d7 d8 d9 HN
   go_wp2_with fail
   go_region_law (go_simp; go_at_call 47; refine HN.out.mono ?_; rintro e w1 ⟨c, rfl, hc, b1⟩)
   all_goals
    have HCC := hide hc
    clear hc
    by_cases hc0 : c = 0
    ·have HC1 := hide (HCC.out hc0)
     subst hc0
     clear HCC
     go_wp2_with fail
     go_roundg go
     case rel => exact ⟨t + 1, by go_num, by omega, by omega, GB.out.drew.trans (b1.mono GB.out.size), GX.out.drew.below b1, HNX.out HC1.out⟩
     case measure => omega
    ·have hcn : (c != 0) = true := by simp [hc0]
     have HC0 := hide hc0
     clear hc0
     go_wp2_with fail
     go_ret
     exact ⟨c, rfl, (fun h => absurd h HC0.out), GB.out.drew.trans (b1.mono GB.out.size)⟩
  ·have bt : ¬ (t : Int) < (ns.length : Int) := by omega
   have hall : ∀ j < ns.length, ∀ n, ns[j]? = some n → ckE ns n = 0 := fun j hj => GK.out j (by omega)
   obtain ⟨od, hod⟩ : ∃ od, ordD ns = od := ⟨_, rfl⟩
   have HFIN := hide (HLT.out hall)
   rw [hod] at HFIN
   have hO : Calls Tryz.prog 48 #[.agg #[.slice na ns.length ncp]] wr.drew fun e w' => ∃ ra rc, e = .returned (.slice ra od.length rc) ∧ Below wr.heap.size wr.drew w' := by
    refine (RefOrder_any (w := wr.drew) ((HJ.out.below GB.out.drew).mono GB.out.size) (by omega)).mono ?_
    rintro e w' ⟨rv, rfl, o, b⟩
    rw [show ordR (ns.map Nd.ins) (ns.length + 1) (List.replicate ns.length false) = od from hod] at o
    obtain ⟨ra, rc, rfl⟩ := o.shape
    exact ⟨ra, rc, rfl, b⟩
   have hle : od.length ≤ ns.length := by rw [← hod]; exact ordD_le ns
   have HO := hide hO
   have GX2 : Hid (BoxT 62 wr.drew w.heap.size #[.slice na ns.length ncp]) := GX.out.drew
   clear hall hod hO GK
   by_cases hfull : od.length = ns.length
   ·have HF2 := hide (HFIN.out hfull)
    have bl : ¬ (od.length : Int) < (ns.length : Int) := by omega
    clear hfull
    go_wp2_with fail
    go_region_law (go_simp; go_at_call 48; refine HO.out.mono ?_; rintro e w1 ⟨ra, rc, rfl, b1⟩; have cy : w1.cell? ⟨w.heap.size, 0, none⟩ = some (.slice na ns.length ncp) := (by rw [(GX2.out.below b1).cellAt]; rfl))
    all_goals
     go_wp2_with fail
     go_ret
     exact ⟨0, rfl, (fun _ => HF2.out), GB.out.drew.trans (b1.mono GB.out.size)⟩
   ·have bl : (od.length : Int) < (ns.length : Int) := by omega
    clear hfull
    go_wp2_with fail
    go_region_law (go_simp; go_at_call 48; refine HO.out.mono ?_; rintro e w1 ⟨ra, rc, rfl, b1⟩; have cy : w1.cell? ⟨w.heap.size, 0, none⟩ = some (.slice na ns.length ncp) := (by rw [(GX2.out.below b1).cellAt]; rfl))
    all_goals
     go_wp2_with fail
     go_ret
     exact ⟨83, rfl, (fun h => by cases h), GB.out.drew.trans (b1.mono GB.out.size)⟩
end Go.Proofs.YtpcbhcdpegbfjaaGreat.J
