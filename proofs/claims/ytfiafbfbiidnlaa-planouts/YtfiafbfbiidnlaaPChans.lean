/-
  channelsOf.
-/
import Derived.Test.YtfiafbfbiidnlaaPTasks
namespace Go.Proofs.Ytfiafbfbiidnlaa
open Go.RowKit

/-- Channels from one task to many. -/
def chTo (f k : Nat) (tos : List Nat) : List Cn := tos.map fun b : Nat => ⟨(f : Int), (b : Int), (k : Int)⟩
/-- Whom the task number f feeds, of node i. -/
def fedL (ns : List Nd) (ts : List Tk) (i f : Nat) : List Nat := plc (fd1 (i : Int) (fdAll ns (tkAt ts (f : Int)).nd (i : Int)) (tkAt ts (f : Int)).pt) 0 ts
def chFr (ns : List Nd) (ts : List Tk) (i k : Nat) (froms : List Nat) : List Cn := froms.flatMap fun f => chTo f k (fedL ns ts i f)
def ofNd (ts : List Tk) (x : Int) : List Nat := plc (fun t : Tk => decide (t.nd = x)) 0 ts
def chIn (ns : List Nd) (ts : List Tk) (i : Nat) (k : Nat) : List Int → List Cn
  | [] => []
  | x :: r => chFr ns ts i k (ofNd ts x) ++ chIn ns ts i (k + 1) r
def chNs (ns : List Nd) (ts : List Tk) (i : Nat) : List Nd → List Cn
  | [] => []
  | n :: r => chIn ns ts i 0 n.ins ++ chNs ns ts (i + 1) r
theorem plc_mem {α : Type} (p : α → Bool) (l : List α) : ∀ k, ∀ x ∈ plc p k l, k ≤ x ∧ ∃ y, l[x - k]? = some y ∧ p y = true := by
  induction l with
  | nil => intro k x hx; simp [plc] at hx
  | cons y l ih =>
    intro k x hx
    rw [plc] at hx
    have step : x ∈ plc p (k + 1) l → k ≤ x ∧ ∃ z, (y :: l)[x - k]? = some z ∧ p z = true := by
      intro h
      obtain ⟨h1, z, h2, h3⟩ := ih (k + 1) x h
      refine ⟨by omega, z, ?_, h3⟩
      rw [show x - k = (x - (k + 1)) + 1 by omega]
      simpa using h2
    by_cases hp : p y = true
    · rw [if_pos hp, List.mem_cons] at hx
      rcases hx with rfl | hx
      · exact ⟨Nat.le_refl _, y, by simp, hp⟩
      · exact step hx
    · rw [if_neg hp] at hx
      exact step hx
theorem drop_of {α : Type} {l : List α} {t : Nat} {x : α} (h : l[t]? = some x) : l.drop t = x :: l.drop (t + 1) := by
  have hl := lt_of_get h
  rw [List.getElem?_eq_getElem hl] at h
  cases h
  exact List.drop_eq_getElem_cons hl
/-- The job's box, and the channels that are laid. -/
structure CS (w wr : World) (v uv : Value) (cur : List Cn) : Prop where
  own : OwnL 40 3 Cn.cs w.heap.size wr uv cur
  bel : Below w.heap.size w wr
  box : BoxT 24 wr w.heap.size #[v]
theorem CS.below {w wr w' : World} {v uv : Value} {cur : List Cn} (h : CS w wr v uv cur) (hb : Below wr.heap.size wr w') : CS w w' v uv cur := ⟨h.own.below hb, h.bel.trans (hb.mono h.bel.size), h.box.below hb⟩
theorem CS.app {w wr w4 : World} {v uv v4 : Value} {cur : List Cn} {o : Obj} {y : Cn} (h : CS w wr v uv cur) (h4 : OwnL 40 3 Cn.cs w.heap.size w4 v4 (cur ++ [y])) (g4 : (wr.alloc o).grownBy w4 uv.ownBlock) : CS w w4 v v4 (cur ++ [y]) := by
  have hs := h.bel.size
  refine ⟨h4, (h.bel.alloc hs o).grown g4 (by simp; omega) (fun k e => h.own.at k e), ?_⟩
  refine (h.box.alloc o).grownO g4 (fun e => ?_)
  obtain ⟨cur', hc⟩ := h.own.has _ e.symm
  exact h.box.ne (t' := 40) hc (by decide) rfl
theorem CS.row {w wr w4 : World} {v uv fv : Value} {cur : List Cn} {o : Obj} {b : Nat} {l : List Nat} (h : CS w wr v uv cur) (hf : OwnN b wr fv l) (g4 : (wr.alloc o).grownBy w4 uv.ownBlock) : OwnN b w4 fv l := by
  refine OwnL.back (OwnL.alloc hf o) (fun g e => ?_)
  refine g4.block g ?_ (fun e' => ?_)
  · have := hf.lt g e
    simp; omega
  · obtain ⟨cur', hc⟩ := h.own.has g e'.symm
    obtain ⟨cur2, hc2⟩ := hf.has g e
    exact BoxT.ne (t := 40) (t' := 3) hc hc2 (by decide) rfl
/-- The number at a place of a row. -/
theorem OwnN.get {base : Nat} {w : World} {ao : Option Addr} {m c : Nat} {l : List Nat} (h : OwnN base w (.slice ao m c) l) {i x : Nat} (hx : l[i]? = some x) : ∃ g, ao = some ⟨g, 0, none⟩ ∧ m = l.length ∧ w.cell? ⟨g, i, none⟩ = some (.int .i64 (x : Int)) := by
  obtain ⟨g, cap, cur, e, _, hb, _, _, _, hat⟩ := OwnN.row h (by intro e; rw [e] at hx; simp at hx)
  cases e
  exact ⟨g, rfl, rfl, by rw [hb.cellAt]; exact hat i x hx⟩

set_option maxHeartbeats 4000000 in
set_option maxRecDepth 100000 in
theorem channelsOf_any {w : World} {v tv : Value} {ns : List Nd} {ts : List Tk} (hj : JobIn w.heap.size w v ns) (ht : LSeg 2 Tk.cs w.heap.size w tv ts) (hl : ns.length ≤ 1000) (hlt : ts.length ≤ 100000) (hR : (chNs ns ts 0 ns).length ≤ 1000000) :
    Calls Try.prog 31 #[.agg #[v], tv] w fun e w' => ∃ u, e = .returned u ∧ OwnL 40 3 Cn.cs w.heap.size w' u (chNs ns ts 0 ns) ∧ Below w.heap.size w w' := by
  obtain ⟨na, ncp, rfl⟩ := hj.shape
  obtain ⟨ta, tc, rfl⟩ := ht.shape
  have HJ := hide hj
  have HTS := hide ht
  obtain ⟨R, hRe⟩ : ∃ R, chNs ns ts 0 ns = R := ⟨_, rfl⟩
  rw [hRe] at hR ⊢
  have HRE := hide hRe
  have HR := hide hR
  have HB0 := hide (below_box w (.cells #[.slice na ns.length ncp] 24))
  have HX0 := hide (BoxT.new 24 w #[.slice na ns.length ncp])
  have hlt2 := hlt
  clear hj ht hRe hR hlt
  have HLT := hide hlt2
  clear hlt2
  go_enter Try.func31, Try.ntmps31
  go_wp2_with fail
  go_loopg [5, 17] (ns.length + 1) (fun g uv iv wr => ∃ (i : Nat) (cur : List Cn), iv = .int .i64 (i : Int) ∧ i ≤ ns.length ∧ ns.length + 1 ≤ g + i ∧ Hid (CS w wr (.slice na ns.length ncp) uv cur) ∧ Hid (cur ++ chNs ns ts i (ns.drop i) = R))
  case atStart => exact ⟨0, [], rfl, by omega, by omega, ⟨OwnL.nil _ _ _ _ _, HB0.out, HX0.out⟩, (show _ = R by simpa using HRE.out)⟩
  case round =>
    obtain ⟨i, cur, rfl, hi, hg, GC, GR⟩ := hrel
    obtain ⟨g1, rfl⟩ : ∃ go, gk = go + 1 := ⟨gk - 1, by omega⟩
    obtain ⟨wo, hwo⟩ : ∃ wo, wo = wr := ⟨_, rfl⟩
    subst hwo
    by_cases hil : i < ns.length
    · obtain ⟨n, hn⟩ := get_of_lt hil
      have bt : (i : Int) < (ns.length : Int) := by omega
      obtain ⟨nb, no, hna, nlt, d0, d1, d2, d3, d4, d5, d6, d7, d8, d9⟩ := (HJ.out.below GC.out.bel).at_ hn
      subst hna
      have HI := hide (HJ.out.ins n (List.mem_of_getElem? hn))
      have HBX := hide (below_box wo (.cells n.cs.toArray 54))
      have hr1 := GR.out
      rw [drop_of hn, chNs, ] at hr1
      obtain ⟨X1, hX1⟩ : ∃ X, chNs ns ts (i + 1) (ns.drop (i + 1)) = X := ⟨_, rfl⟩
      rw [hX1] at hr1
      have GR1 := hide hr1
      have HX1 := hide hX1
      clear hn hr1 hX1 GR
      obtain ⟨kd, ia, icp, ins, par, ⟨eo, en, ea, ec, el⟩, ag, wk, wz, wl⟩ := n
      unfold Nd.cs at HBX
      simp only at d0 d1 d2 d3 d4 d5 d6 d7 d8 d9 HI HBX GR1
      have hil2 := HI.out.len
      go_wp2_with fail
      go_loopg [5, 25] (ins.length + 1) (fun g uv iv wr => ∃ (k : Nat) (cur : List Cn), iv = .int .i64 (k : Int) ∧ k ≤ ins.length ∧ ins.length + 1 ≤ g + k ∧ Hid (CS w wr (.slice (some ⟨nb, no, none⟩) ns.length ncp) uv cur) ∧ Hid (cur ++ (chIn ns ts i k (ins.drop k) ++ X1) = R))
      case atStart => exact ⟨0, cur, rfl, by omega, by omega, GC.out.below HBX.out, (show _ = R by simpa using GR1.out)⟩
      case round =>
        clear GR1 GC HBX
        obtain ⟨k, cur, rfl, hk, hgk, GC, GR⟩ := hrel
        obtain ⟨g2, rfl⟩ : ∃ go, gk = go + 1 := ⟨gk - 1, by omega⟩
        obtain ⟨wp, hwp⟩ : ∃ wp, wp = wr := ⟨_, rfl⟩
        subst hwp
        by_cases hkl : k < ins.length
        · obtain ⟨x, hx⟩ := get_of_lt hkl
          have bk : (k : Int) < (ins.length : Int) := by omega
          obtain ⟨ib, io, hia, ilt, ci⟩ := (HI.out.below GC.out.bel).num hx
          subst hia
          have hr2 := GR.out
          rw [drop_of hx, chIn, List.append_assoc] at hr2
          obtain ⟨X2, hX2⟩ : ∃ X, chIn ns ts i (k + 1) (ins.drop (k + 1)) ++ X1 = X := ⟨_, rfl⟩
          rw [hX2] at hr2
          have GR2 := hide hr2
          have HX2 := hide hX2
          have hbx := below_box wp (.cells #[.int .i64 x] 3)
          have hb4 := GC.out.bel.trans (hbx.mono GC.out.bel.size)
          have hpl := placesT_any ((HTS.out.below hb4).mono hb4.size) HLT.out 46 runF46 [.pointer (some ⟨wp.heap.size, 0, none⟩)] (fun t : Tk => decide (t.nd = x)) (fun y _ w' h => chan1_any ((BoxT.new 3 wp #[.int .i64 x]).below h) y)
          obtain ⟨froms, hfr⟩ : ∃ l, ofNd ts x = l := ⟨_, rfl⟩
          rw [show plc (fun t : Tk => decide (t.nd = x)) 0 ts = froms from hfr] at hpl
          rw [hfr] at GR2
          have HMF : Hid (∀ f ∈ froms, ∃ tf, ts[f]? = some tf) := (fun f hf => by
            rw [← hfr] at hf
            obtain ⟨_, y, h1, h2⟩ := plc_mem _ _ _ f hf
            exact ⟨y, by simpa using h1⟩)
          have hfl : froms.length ≤ 100000 := (by rw [← hfr]; exact Nat.le_trans (plc_len _ _ _) HLT.out)
          have HPL := hide hpl
          have HBX := hide hbx
          clear hx hr2 hX2 GR hbx hb4 hpl hfr
          go_wp2_with (go_at_call 45; refine HPL.out.mono ?_; rintro e w2 ⟨fv, rfl, o2, b2⟩
                       obtain ⟨fa, fc, hfv⟩ := o2.shape
                       subst hfv
                       have hb2 := HBX.out.trans (b2.mono HBX.out.size)
                       have GC2 := hide (GC.out.below hb2)
                       have O2 : Hid (OwnN w.heap.size w2 (.slice fa froms.length fc) froms) := (show OwnN _ _ _ _ from OwnN.mono' o2 (Nat.le_trans GC.out.bel.size HBX.out.size))
                       clear o2 b2 hb2)
          go_loopg [5, 34] (froms.length + 1) (fun g uv iv wr => ∃ (a : Nat) (cur : List Cn), iv = .int .i64 (a : Int) ∧ a ≤ froms.length ∧ froms.length + 1 ≤ g + a ∧ Hid (CS w wr (.slice (some ⟨nb, no, none⟩) ns.length ncp) uv cur) ∧ Hid (OwnN w.heap.size wr (.slice fa froms.length fc) froms) ∧ Hid (cur ++ (chFr ns ts i k (froms.drop a) ++ X2) = R))
          case atStart => exact ⟨0, cur, rfl, by omega, by omega, GC2, O2, (show _ = R by simpa using GR2.out)⟩
          case round =>
            clear GR2 GC GC2 O2 HBX HPL
            obtain ⟨a, cur, rfl, ha, hga, GC, GF, GR⟩ := hrel
            obtain ⟨g3, rfl⟩ : ∃ go, gk = go + 1 := ⟨gk - 1, by omega⟩
            obtain ⟨wq, hwq⟩ : ∃ wq, wq = wr := ⟨_, rfl⟩
            subst hwq
            by_cases hal : a < froms.length
            · obtain ⟨f, hf⟩ := get_of_lt hal
              have ba : (a : Int) < (froms.length : Int) := by omega
              obtain ⟨fg, hfa, -, cf⟩ := GF.out.get hf
              subst hfa
              obtain ⟨tf, htf⟩ := HMF.out f (List.mem_of_getElem? hf)
              have bf : (f : Int) < (ts.length : Int) := by have := lt_of_get htf; omega
              have bf0 : ¬ (f : Int) < 0 := by omega
              obtain ⟨tb, to0, hta, tlt, e0, e1⟩ := seg_tk (HTS.out.below GC.out.bel) htf
              subst hta
              have hr3 := GR.out
              rw [drop_of hf, chFr, List.flatMap_cons, List.append_assoc] at hr3
              obtain ⟨X3, hX3⟩ : ∃ X, chFr ns ts i k (froms.drop (a + 1)) ++ X2 = X := ⟨_, rfl⟩
              rw [show (froms.drop (a + 1)).flatMap (fun f => chTo f k (fedL ns ts i f)) ++ X2 = X3 from hX3] at hr3
              have hfd : ∀ w', Below wq.heap.size wq w' → Calls Try.prog 47 #[.agg #[.slice (some ⟨nb, no, none⟩) ns.length ncp], .slice (some ⟨tb, to0, none⟩) ts.length tc, .agg #[.int .i64 tf.nd, .int .i64 tf.pt], .int .i64 (i : Int)] w' fun e w'' => ∃ ra rc, e = .returned (.slice ra (fedL ns ts i f).length rc) ∧ OwnN w.heap.size w'' (.slice ra (fedL ns ts i f).length rc) (fedL ns ts i f) ∧ Below wq.heap.size wq w'' := fun w' hb => by
                have hb4 := GC.out.bel.trans (hb.mono GC.out.bel.size)
                refine (fed_any ((HJ.out.below hb4).mono hb4.size) ((HTS.out.below hb4).mono hb4.size) HLT.out tf (i : Int)).mono ?_
                rintro e w'' ⟨u, rfl, o, b⟩
                have he : fedL ns ts i f = plc (fd1 (i : Int) (fdAll ns tf.nd (i : Int)) tf.pt) 0 ts := by unfold fedL; rw [tkAt_in htf]
                rw [← he] at o
                obtain ⟨ra, rc, rfl⟩ := o.shape
                exact ⟨ra, rc, rfl, OwnN.mono' o hb4.size, hb.trans (b.mono hb.size)⟩
              have hfl2 : (fedL ns ts i f).length ≤ 100000 := Nat.le_trans (plc_len _ _ _) HLT.out
              obtain ⟨tos, hto⟩ : ∃ l, fedL ns ts i f = l := ⟨_, rfl⟩
              rw [hto] at hfd hr3 hfl2
              have HFD := hide hfd
              have GR3 := hide hr3
              have HX3 := hide hX3
              obtain ⟨tn, tp⟩ := tf
              simp only at e0 e1 HFD
              have KC : Hid (∀ w' : World, Below wq.heap.size wq w' → w'.cell? ⟨w.heap.size, 0, none⟩ = some (.slice (some ⟨nb, no, none⟩) ns.length ncp) ∧ w'.cell? ⟨tb, to0 + f * 2, none⟩ = some (.int .i64 tn) ∧ w'.cell? ⟨tb, to0 + f * 2 + 1, none⟩ = some (.int .i64 tp)) := fun w' h => ⟨(by rw [(GC.out.box.below h).cellAt]; rfl), (by rw [h.cell (p := ⟨tb, _, none⟩) (Nat.lt_of_lt_of_le tlt GC.out.bel.size)]; exact e0), (by rw [h.cell (p := ⟨tb, _, none⟩) (Nat.lt_of_lt_of_le tlt GC.out.bel.size)]; exact e1)⟩
              clear hf htf hr3 hX3 hfd hto GR
              go_wp2_with fail
              have B1 : Hid (Below (wq).heap.size (wq) (wq).drew) := (Below.refl _ _).drew
              refine wp_region_M (S := fun w' => w'.cell? ⟨w.heap.size, 0, none⟩ = some (.slice (some ⟨nb, no, none⟩) ns.length ncp) ∧ w'.cell? ⟨tb, to0 + f * 2, none⟩ = some (.int .i64 tn) ∧ w'.cell? ⟨tb, to0 + f * 2 + 1, none⟩ = some (.int .i64 tp)) (late := []) (by kernel_rfl) (KC.out _ B1.out) (fun hHeld => ?_)
              (try simp only [List.size_toArray, List.length_cons, List.length_nil, Nat.zero_add, Nat.reduceAdd, Array.replicate, List.replicate])
              refine wpAnyM_take (i := 0) (oi := ⟨_, _, _, _, _, _⟩) (v := ?_) rfl (by kernel_rfl) (by kernel_rfl) (by kernel_rfl) (by kernel_rfl) (fun _ _ _ h => h) (Or.inl ⟨by rfl, ?_⟩) hHeld ?_
              rotate_left
              · (intro w' hSw; (try dsimp only at hSw); go_simp; try (with_reducible rfl))
              (try simp only [Act.put, List.setIfInBounds_toArray, List.set_cons_zero, List.set_cons_succ])
              refine wpAnyM_take (i := 1) (oi := ⟨_, _, _, _, _, _⟩) (v := ?_) rfl (by kernel_rfl) (by kernel_rfl) (by kernel_rfl) (by kernel_rfl) (fun _ _ _ h => h) (Or.inl ⟨by rfl, ?_⟩) hHeld ?_
              rotate_left
              · (intro w' hSw; (try dsimp only at hSw); go_simp; try (with_reducible rfl))
              (try simp only [Act.put, List.setIfInBounds_toArray, List.set_cons_zero, List.set_cons_succ])
              refine wpAnyM_take (i := 2) (oi := ⟨_, _, _, _, _, _⟩) (v := ?_) rfl (by kernel_rfl) (by kernel_rfl) (by kernel_rfl) (by kernel_rfl) (fun _ _ _ h => h) (Or.inl ⟨by rfl, ?_⟩) hHeld ?_
              rotate_left
              · (intro w' hSw; (try dsimp only at hSw); go_simp; try (with_reducible rfl))
              (try simp only [Act.put, List.setIfInBounds_toArray, List.set_cons_zero, List.set_cons_succ])
              refine wpAnyM_take (i := 3) (oi := ⟨_, _, _, _, _, _⟩) (v := ?_) rfl (by kernel_rfl) (by kernel_rfl) (by kernel_rfl) (by kernel_rfl) (fun _ _ _ h => h) (Or.inl ⟨by rfl, ?_⟩) hHeld ?_
              rotate_left
              · (intro w' hSw; (try dsimp only at hSw); go_simp; try (with_reducible rfl))
              (try simp only [Act.put, List.setIfInBounds_toArray, List.set_cons_zero, List.set_cons_succ])
              refine wpAnyM_take (i := 4) (oi := ⟨_, _, _, _, _, _⟩) (v := ?_) rfl (by kernel_rfl) (by kernel_rfl) (by kernel_rfl) (by kernel_rfl) (fun _ _ _ h => h) (Or.inl ⟨by rfl, ?_⟩) hHeld ?_
              rotate_left
              · (intro w' hSw; (try dsimp only at hSw); go_simp; try (with_reducible rfl))
              (try simp only [Act.put, List.setIfInBounds_toArray, List.set_cons_zero, List.set_cons_succ])
              refine wpAnyM_take (i := 5) (oi := ⟨_, _, _, _, _, _⟩) (v := ?_) rfl (by kernel_rfl) (by kernel_rfl) (by kernel_rfl) (by kernel_rfl) (fun _ _ _ h => h) (Or.inl ⟨by rfl, ?_⟩) hHeld ?_
              rotate_left
              · (intro w' hSw; (try dsimp only at hSw); go_simp; try (with_reducible rfl))
              (try simp only [Act.put, List.setIfInBounds_toArray, List.set_cons_zero, List.set_cons_succ])
              refine wpAnyM_take (i := 6) (oi := ⟨_, _, _, _, _, _⟩) (v := ?_) rfl (by kernel_rfl) (by kernel_rfl) (by kernel_rfl) (by kernel_rfl) (fun _ _ _ h => h) (Or.inl ⟨by rfl, ?_⟩) hHeld ?_
              rotate_left
              · (intro w' hSw; (try dsimp only at hSw); go_simp; try (with_reducible rfl))
              (try simp only [Act.put, List.setIfInBounds_toArray, List.set_cons_zero, List.set_cons_succ])
              refine wpAnyM_take (i := 9) (oi := ⟨_, _, _, _, _, _⟩) (v := ?_) rfl (by kernel_rfl) (by kernel_rfl) (by kernel_rfl) (by kernel_rfl) (fun _ _ _ h => h) (Or.inl ⟨by rfl, ?_⟩) hHeld ?_
              rotate_left
              · (intro w' hSw; (try dsimp only at hSw); go_simp; try (with_reducible rfl))
              (try simp only [Act.put, List.setIfInBounds_toArray, List.set_cons_zero, List.set_cons_succ])
              refine wpAnyM_one (i := 7) (o := ⟨_, _, _, _, _, _⟩) (by kernel_rfl) rfl (fun K hK => ?_)
              go_simp
              go_at_call 47
              refine (HFD.out _ B1.out).mono ?_
              rintro e w3 ⟨ra, rc, rfl, o3, hb⟩
              have B2 := hide hb
              have O3 := hide o3
              clear o3
              refine hK.out _ _ (KC.out _ hb) (fun hHeld => ?_)
              clear hK K hb
              (try simp only [List.setIfInBounds_toArray, List.set_cons_zero, List.set_cons_succ])
              refine wpAnyM_take (i := 8) (oi := ⟨_, _, _, _, _, _⟩) (v := ?_) rfl (by kernel_rfl) (by kernel_rfl) (by kernel_rfl) (by kernel_rfl) (fun _ _ _ h => h) (Or.inl ⟨by rfl, ?_⟩) hHeld ?_
              rotate_left
              · (intro w' hSw; (try dsimp only at hSw); go_simp; try (with_reducible rfl))
              (try simp only [Act.put, List.setIfInBounds_toArray, List.set_cons_zero, List.set_cons_succ])
              refine wpAnyM_done (by kernel_rfl) ?_ _
              go_wp2_with fail
              go_loopg [5, 47] (tos.length + 1) (fun g uv iv wr => ∃ (b : Nat) (cur : List Cn), iv = .int .i64 (b : Int) ∧ b ≤ tos.length ∧ tos.length + 1 ≤ g + b ∧ Hid (CS w wr (.slice (some ⟨nb, no, none⟩) ns.length ncp) uv cur) ∧ Hid (OwnN w.heap.size wr (.slice (some ⟨fg, 0, none⟩) froms.length fc) froms) ∧ Hid (OwnN w.heap.size wr (.slice ra tos.length rc) tos) ∧ Hid (cur ++ (chTo f k (tos.drop b) ++ X3) = R))
              case atStart => exact ⟨0, cur, rfl, by omega, by omega, GC.out.below B2.out, OwnL.below GF.out B2.out, O3, (show _ = R by simpa using GR3.out)⟩
              case round =>
                clear GR3 GC GF O3 HFD KC B1 B2 hHeld
                obtain ⟨b, cur, rfl, hb, hgb, GC, GF, GT, GR⟩ := hrel
                obtain ⟨g4, rfl⟩ : ∃ go, gk = go + 1 := ⟨gk - 1, by omega⟩
                by_cases hbl : b < tos.length
                · obtain ⟨y, hy⟩ := get_of_lt hbl
                  have bb : (b : Int) < (tos.length : Int) := by omega
                  obtain ⟨tg, hra, -, cy⟩ := GT.out.get hy
                  subst hra
                  have hr4 := GR.out
                  rw [drop_of hy, chTo, List.map_cons] at hr4
                  have GR4 : Hid ((cur ++ [(⟨(f : Int), (y : Int), (k : Int)⟩ : Cn)]) ++ (chTo f k (tos.drop (b + 1)) ++ X3) = R) := (show _ = R by rw [← hr4]; simp [chTo])
                  have HLL : Hid (cur.length ≤ 1000000) := (show _ ≤ _ by
                    have h1 := HR.out
                    rw [← GR.out, List.length_append] at h1
                    omega)
                  have HNW : Hid (∀ (j : Nat) (u : Value), (Cn.cs ⟨(f : Int), (y : Int), (k : Int)⟩)[j]? = some u → (wr.alloc (.cells #[.int .i64 (f : Int), .int .i64 (y : Int), .int .i64 (k : Int)] 40)).cell? ((⟨wr.heap.size, 0, none⟩ : Addr).add j) = some u) := fun j u hu => by
                    rw [add_plain2, (BoxT.new 40 wr _).cellAt, Nat.zero_add]
                    simpa [Cn.cs] using hu
                  have HBS : Hid (w.heap.size ≤ (wr.alloc (.cells #[.int .i64 (f : Int), .int .i64 (y : Int), .int .i64 (k : Int)] 40)).heap.size) := (show _ ≤ _ by have := GC.out.bel.size; simp; omega)
                  clear hy hr4 GR
                  go_wp2_with (at_builtin; refine app_L Try.info40' (by kernel_rfl) rfl (by omega) (by omega) Cn.cs_len Cn.cs_one rfl _ _ rfl w.heap.size u5 _ rfl (GC.out.own.alloc _) ⟨wr.heap.size, 0, none⟩ 1 ⟨(f : Int), (y : Int), (k : Int)⟩ rfl HNW.out HLL.out HBS.out ?_; intro v4 w4 h4 q4 n4)
                  go_roundg g4
                  case rel => exact ⟨b + 1, _, by go_num, by omega, by omega, GC.out.app h4 q4, GC.out.row GF.out q4, GC.out.row GT.out q4, GR4⟩
                  case measure => omega
                · have bb : ¬ (b : Int) < (tos.length : Int) := by omega
                  have GR5 : Hid (cur ++ (chFr ns ts i k (froms.drop (a + 1)) ++ X2) = R) := (show _ = R by
                    have := GR.out
                    rw [List.drop_eq_nil_of_le (by omega)] at this
                    rw [HX3.out]
                    exact this)
                  go_wp2_with fail
                  go_roundg g3
                  case rel => exact ⟨a + 1, cur, by go_num, by omega, by omega, GC, GF, GR5⟩
                  case measure => omega
            · have ba : ¬ (a : Int) < (froms.length : Int) := by omega
              have GR5 : Hid (cur ++ (chIn ns ts i (k + 1) (ins.drop (k + 1)) ++ X1) = R) := (show _ = R by
                have := GR.out
                rw [List.drop_eq_nil_of_le (by omega)] at this
                rw [HX2.out]
                exact this)
              go_wp2_with fail
              go_roundg g2
              case rel => exact ⟨k + 1, cur, by go_num, by omega, by omega, GC, GR5⟩
              case measure => omega
        · have bk : ¬ (k : Int) < (ins.length : Int) := by omega
          have GR5 : Hid (cur ++ chNs ns ts (i + 1) (ns.drop (i + 1)) = R) := (show _ = R by
            have := GR.out
            rw [List.drop_eq_nil_of_le (by omega)] at this
            rw [HX1.out]
            exact this)
          go_wp2_with fail
          go_roundg g1
          case rel => exact ⟨i + 1, cur, by go_num, by omega, by omega, GC, GR5⟩
          case measure => omega
    · have bt : ¬ (i : Int) < (ns.length : Int) := by omega
      have HE : Hid (cur = R) := (show cur = R by
        have := GR.out
        rw [List.drop_eq_nil_of_le (by omega)] at this
        simpa [chNs] using this)
      go_wp2_with fail
      go_ret
      rw [← HE.out]
      exact ⟨_, rfl, GC.out.own, GC.out.bel⟩
end Go.Proofs.Ytfiafbfbiidnlaa
