/-
  Texts in build order: ZPRN8.
-/
import Derived.Test.YtpcbhcdpegbfjaaGreatM31
/-
 The document's node, of kind 8: what it takes the program takes too.
-/
namespace Go.Proofs.YtpcbhcdpegbfjaaGreat.J
set_option maxHeartbeats 16000000
set_option maxRecDepth 100000
open Go.RowKit
theorem rnode8 {w : World} {v : Value} {ns : List Nd} (ia : Option Addr) (icp : Nat) (ins : List Int) (par eo en : Int) (ea : Option Addr) (ec : Nat) (el : List Ex) (ag wk ws wl : Int) (hj : JobIn w.heap.size w v ns) (hi : LSeg 1 ic w.heap.size w (.slice ia ins.length icp) ins)
  (hex : ∀ w', Below w.heap.size w w' → Calls Tryz.prog 52 #[.agg #[.int .i64 eo, .int .i64 en, .slice ea el.length ec]] w' fun e w'' => e = .returned (.int .i64 (chk ⟨eo, en, ea, ec, el⟩)) ∧ Below w'.heap.size w' w'') :
  Calls Tryz.prog 47 #[.agg #[v], .agg #[.int .i64 8, .slice ia ins.length icp, .int .i64 par, .int .i64 eo, .int .i64 en, .slice ea el.length ec, .int .i64 ag, .int .i64 wk, .int .i64 ws, .int .i64 wl]] w (RN w ns ⟨8, ia, icp, ins, par, ⟨eo, en, ea, ec, el⟩, ag, wk, ws, wl⟩) := by
 obtain ⟨na, ncp, rfl⟩ := hj.shape
 obtain ⟨cxx, hcx⟩ : ∃ c, chk ⟨eo, en, ea, ec, el⟩ = c := ⟨_, rfl⟩
 rw [hcx] at hex
 have HOK0 : Hid (cntOk 8 ins.length = true → (∀ x ∈ ins, okIn (ns.map Nd.kind) x = true) → (1 ≤ par ∧ par ≤ 4) → exB 8 eo en el.length cxx = true → aggB 8 ag = true → winB 8 wk ws wl = true → ckE ns ⟨8, ia, icp, ins, par, ⟨eo, en, ea, ec, el⟩, ag, wk, ws, wl⟩ = 0) := fun h1 h2 h3 h4 h5 h6 => ckE_of (by simp) h1 h2 h3 (by rw [hcx]; exact h4) h5 h6
 have HEX := hide hex
 have HJ := hide hj
 unfold RN
 generalize ckE ns _ = CKE at *
 clear hcx hex hj
 obtain ⟨L, hL⟩ : ∃ L, ins.length = L := ⟨_, rfl⟩
 rw [hL] at hi HOK0 ⊢
 have HI := hide hi
 have HL := hide hL
 clear hi hL
 have HB : Hid (Below w.heap.size w ((w.alloc (.cells #[.slice na ns.length ncp] 62)).alloc (.cells #[.int .i64 8, .slice ia L icp, .int .i64 par, .int .i64 eo, .int .i64 en, .slice ea el.length ec, .int .i64 ag, .int .i64 wk, .int .i64 ws, .int .i64 wl] 29))) := ((Below.refl _ _).alloc (Nat.le_refl _) _).alloc (by simp) _
 obtain ⟨CS, hCS⟩ : ∃ CS, #[Value.int .i64 8, .slice ia L icp, .int .i64 par, .int .i64 eo, .int .i64 en, .slice ea el.length ec, .int .i64 ag, .int .i64 wk, .int .i64 ws, .int .i64 wl] = CS := ⟨_, rfl⟩
 have HX := hide ((BoxT.new 62 w #[.slice na ns.length ncp]).alloc (.cells #[.int .i64 8, .slice ia L icp, .int .i64 par, .int .i64 eo, .int .i64 en, .slice ea el.length ec, .int .i64 ag, .int .i64 wk, .int .i64 ws, .int .i64 wl] 29))
 have HY : Hid (BoxT 29 ((w.alloc (.cells #[.slice na ns.length ncp] 62)).alloc (.cells #[.int .i64 8, .slice ia L icp, .int .i64 par, .int .i64 eo, .int .i64 en, .slice ea el.length ec, .int .i64 ag, .int .i64 wk, .int .i64 ws, .int .i64 wl] 29)) (w.heap.size + 1) CS) := (show BoxT _ _ _ _ by rw [← hCS]; exact BoxT.new_at (by simp))
 have HC := hide hCS
 clear hCS
 by_cases hl : ¬ L = 1
 ·have g : ((L : Int) != 1) = true := by simp; omega
  as_aux_lemma =>
  go_enter Tryz.func47, Tryz.ntmps47
  go_wp2_with fail
  go_ret
  exact ⟨82, rfl, (fun h => by cases h), HB.out⟩
 have hl0 : L = 1 := by omega
 have g : ((L : Int) != 1) = false := by simp; omega
 clear hl
 have HCN : Hid (cntOk 8 L = true) := (show _ = true by simp [cntOk]; omega)
 clear hl0
 as_aux_lemma =>
 go_enter Tryz.func47, Tryz.ntmps47
 go_wp2_with fail
 go_loopg [6] (ins.length + 1) (fun g iv wr => ∃ t : Nat, iv = .int .i64 (t : Int) ∧ t ≤ ins.length ∧ ins.length + 1 ≤ g + t ∧ Hid (Below w.heap.size w wr) ∧ Hid (BoxT 62 wr w.heap.size #[.slice na ns.length ncp]) ∧ Hid (BoxT 29 wr (w.heap.size + 1) CS) ∧ Hid (∀ j < t, ∀ x, ins[j]? = some x → okIn (ns.map Nd.kind) x = true))
 case atStart => exact ⟨0, rfl, by omega, by omega, HB, HX, HY, (fun j hj => by omega)⟩
 case round =>
  obtain ⟨t, rfl, ht, hg, GB, GX, GY, GK⟩ := hrel
  obtain ⟨go, rfl⟩ : ∃ go, gk = go + 1 := ⟨gk - 1, by omega⟩
  have GZ := GY
  rw [← HC.out] at GZ
  obtain ⟨d0, d1, d2, d3, d4, d5, d6, d7, d8, d9⟩ := GZ.out.cells10
  have cx : wr.cell? ⟨w.heap.size, 0, none⟩ = some (.slice na ns.length ncp) := by rw [GX.out.cellAt]; rfl
  clear GZ
  have hLL := HL.out
  have hlen47 := HI.out.len
  by_cases hlt : t < ins.length
  ·obtain ⟨x, hx⟩ := get_of_lt hlt
   obtain ⟨xb, xo, hia, xlt, cx2⟩ := (HI.out.below GB.out).num hx
   subst hia
   have bt : (t : Int) < (ins.length : Int) := by omega
   rw [hLL] at bt
   have HXX := hide hx
   clear hx
   by_cases hx0 : x < 0
   ·have gx0 : decide (x < 0) = true := by simpa using hx0
    as_aux_lemma =>
    have KC : Hid (∀ w' : World, Below wr.heap.size wr w' → w'.cell? ⟨w.heap.size + 1, 1, none⟩ = some (.slice (some ⟨xb, xo, none⟩) L icp) ∧ w'.cell? ⟨xb, xo + t, none⟩ = some (.int .i64 x)) := fun w' h => ⟨(by rw [h.cell (p := ⟨w.heap.size + 1, 1, none⟩) GY.out.lt]; exact d1), (by rw [h.cell (p := ⟨xb, _, none⟩) (Nat.lt_of_lt_of_le xlt GB.out.size)]; exact cx2)⟩
    clear d0 d1 d2 d3 d4 d5 d6 d7 d8 d9 cx cx2
    go_wp2_with fail
    have B1 : Hid (Below (wr).heap.size (wr) (wr).drew) := (Below.refl _ _).drew
    refine wp_region_M (S := fun w' => w'.cell? ⟨w.heap.size + 1, 1, none⟩ = some (.slice (some ⟨xb, xo, none⟩) L icp) ∧ w'.cell? ⟨xb, xo + t, none⟩ = some (.int .i64 x)) (late := []) (by kernel_rfl) (KC.out _ B1.out) (fun hH => ?_)
    (try simp only [nr, Nat.reduceAdd])
    refine tkA 0 hH ?_; simp only [nm]; refine tkA 1 hH ?_; simp only [nm]; refine tkA 2 hH ?_; simp only [nm]; refine tkA 3 hH ?_; simp only [nm]; refine tkA 4 hH ?_; simp only [nm]; refine tkA 5 hH ?_; simp only [nm]; refine tkA 6 hH ?_; simp only [nm]; refine tkU 7 hH ?_; simp only [nm]; refine tkU 8 hH ?_; simp only [nm]; refine tkU 9 hH ?_; simp only [nm]; refine tkU 10 hH ?_; simp only [nm]; refine tkU 11 hH ?_; simp only [nm]; refine tkU 12 hH ?_; simp only [nm]; refine tkU 13 hH ?_; simp only [nm]; refine tkU 14 hH ?_; simp only [nm]; refine tkU 15 hH ?_; simp only [nm]; refine tkA 16 hH ?_; simp only [nm]; refine tkA 17 hH ?_; simp only [nm]; refine tkU 18 hH ?_; simp only [nm]; refine tkU 19 hH ?_; simp only [nm]; refine tkU 20 hH ?_; simp only [nm]; refine tkU 21 hH ?_; simp only [nm]; refine tkU 22 hH ?_; simp only [nm]; refine tkU 23 hH ?_; simp only [nm]; refine tkU 24 hH ?_; simp only [nm]; refine tkU 25 hH ?_; simp only [nm]; refine tkU 26 hH ?_; simp only [nm]; refine tkU 27 hH ?_; simp only [nm]; refine tkU 28 hH ?_; simp only [nm]; refine tkA 29 hH ?_; simp only [nm]
    refine wpAnyM_done (by kernel_rfl) ?_ _
    go_wp2_with fail
    go_ret
    exact ⟨82, rfl, (fun h => by cases h), GB.out.drew⟩
   have gx0 : decide (x < 0) = false := by simpa using hx0
   by_cases hx1 : (ns.length : Int) ≤ x
   ·have gx1 : decide ((ns.length : Int) ≤ x) = true := by simpa using hx1
    as_aux_lemma =>
    have KC : Hid (∀ w' : World, Below wr.heap.size wr w' → w'.cell? ⟨w.heap.size + 1, 1, none⟩ = some (.slice (some ⟨xb, xo, none⟩) L icp) ∧ w'.cell? ⟨xb, xo + t, none⟩ = some (.int .i64 x) ∧ w'.cell? ⟨w.heap.size, 0, none⟩ = some (.slice na ns.length ncp)) := fun w' h => ⟨(by rw [h.cell (p := ⟨w.heap.size + 1, 1, none⟩) GY.out.lt]; exact d1), (by rw [h.cell (p := ⟨xb, _, none⟩) (Nat.lt_of_lt_of_le xlt GB.out.size)]; exact cx2), (by rw [h.cell (p := ⟨w.heap.size, 0, none⟩) GX.out.lt]; exact cx)⟩
    clear d0 d1 d2 d3 d4 d5 d6 d7 d8 d9 cx cx2
    go_wp2_with fail
    have B1 : Hid (Below (wr).heap.size (wr) (wr).drew) := (Below.refl _ _).drew
    refine wp_region_M (S := fun w' => w'.cell? ⟨w.heap.size + 1, 1, none⟩ = some (.slice (some ⟨xb, xo, none⟩) L icp) ∧ w'.cell? ⟨xb, xo + t, none⟩ = some (.int .i64 x) ∧ w'.cell? ⟨w.heap.size, 0, none⟩ = some (.slice na ns.length ncp)) (late := []) (by kernel_rfl) (KC.out _ B1.out) (fun hH => ?_)
    (try simp only [nr, Nat.reduceAdd])
    refine tkA 0 hH ?_; simp only [nm]; refine tkA 1 hH ?_; simp only [nm]; refine tkA 2 hH ?_; simp only [nm]; refine tkA 3 hH ?_; simp only [nm]; refine tkA 4 hH ?_; simp only [nm]; refine tkA 5 hH ?_; simp only [nm]; refine tkA 6 hH ?_; simp only [nm]; refine tkA 7 hH ?_; simp only [nm]; refine tkA 8 hH ?_; simp only [nm]; refine tkA 9 hH ?_; simp only [nm]; refine tkA 10 hH ?_; simp only [nm]; refine tkA 11 hH ?_; simp only [nm]; refine tkA 12 hH ?_; simp only [nm]; refine tkA 13 hH ?_; simp only [nm]; refine tkA 14 hH ?_; simp only [nm]; refine tkA 15 hH ?_; simp only [nm]; refine tkA 16 hH ?_; simp only [nm]; refine tkA 17 hH ?_; simp only [nm]; refine tkU 18 hH ?_; simp only [nm]; refine tkU 19 hH ?_; simp only [nm]; refine tkU 20 hH ?_; simp only [nm]; refine tkU 21 hH ?_; simp only [nm]; refine tkU 22 hH ?_; simp only [nm]; refine tkU 23 hH ?_; simp only [nm]; refine tkU 24 hH ?_; simp only [nm]; refine tkU 25 hH ?_; simp only [nm]; refine tkU 26 hH ?_; simp only [nm]; refine tkU 27 hH ?_; simp only [nm]; refine tkU 28 hH ?_; simp only [nm]; refine tkA 29 hH ?_; simp only [nm]
    refine wpAnyM_done (by kernel_rfl) ?_ _
    go_wp2_with fail
    go_ret
    exact ⟨82, rfl, (fun h => by cases h), GB.out.drew⟩
   have gx1 : decide ((ns.length : Int) ≤ x) = false := by simpa using hx1
   obtain ⟨f, rfl⟩ : ∃ f : Nat, x = (f : Int) := ⟨x.toNat, by omega⟩
   obtain ⟨m, hm⟩ := get_of_lt (l := ns) (i := f) (by omega)
   obtain ⟨nb, no, hna, nlt, ck, -⟩ := (HJ.out.below GB.out).at_ hm
   subst hna
   have bf : (f : Int) < (ns.length : Int) := by omega
   have gx2 : decide (ns.length ≤ f) = false := by simp; omega
   have gx3 : decide ((f : Int) < 0) = false := by simp
   have HM := hide hm
   clear hm hx1 hx0
   by_cases h8 : m.kind = 8
   ·have b8 : (m.kind == 8) = true := by simp [h8]
    clear h8
    as_aux_lemma =>
    have KC : Hid (∀ w' : World, Below wr.heap.size wr w' → w'.cell? ⟨w.heap.size + 1, 1, none⟩ = some (.slice (some ⟨xb, xo, none⟩) L icp) ∧ w'.cell? ⟨xb, xo + t, none⟩ = some (.int .i64 (f : Int)) ∧ w'.cell? ⟨w.heap.size, 0, none⟩ = some (.slice (some ⟨nb, no, none⟩) ns.length ncp) ∧ w'.cell? ⟨nb, no + f * 10, none⟩ = some (.int .i64 m.kind)) := fun w' h => ⟨(by rw [h.cell (p := ⟨w.heap.size + 1, 1, none⟩) GY.out.lt]; exact d1), (by rw [h.cell (p := ⟨xb, _, none⟩) (Nat.lt_of_lt_of_le xlt GB.out.size)]; exact cx2), (by rw [h.cell (p := ⟨w.heap.size, 0, none⟩) GX.out.lt]; exact cx), (by rw [h.cell (p := ⟨nb, _, none⟩) (Nat.lt_of_lt_of_le nlt GB.out.size)]; exact ck)⟩
    clear d0 d1 d2 d3 d4 d5 d6 d7 d8 d9 cx cx2 ck
    go_wp2_with fail
    have B1 : Hid (Below (wr).heap.size (wr) (wr).drew) := (Below.refl _ _).drew
    refine wp_region_M (S := fun w' => w'.cell? ⟨w.heap.size + 1, 1, none⟩ = some (.slice (some ⟨xb, xo, none⟩) L icp) ∧ w'.cell? ⟨xb, xo + t, none⟩ = some (.int .i64 (f : Int)) ∧ w'.cell? ⟨w.heap.size, 0, none⟩ = some (.slice (some ⟨nb, no, none⟩) ns.length ncp) ∧ w'.cell? ⟨nb, no + f * 10, none⟩ = some (.int .i64 m.kind)) (late := []) (by kernel_rfl) (KC.out _ B1.out) (fun hH => ?_)
    (try simp only [nr, Nat.reduceAdd])
    refine tkA 0 hH ?_; simp only [nm]; refine tkA 1 hH ?_; simp only [nm]; refine tkA 2 hH ?_; simp only [nm]; refine tkA 3 hH ?_; simp only [nm]; refine tkA 4 hH ?_; simp only [nm]; refine tkA 5 hH ?_; simp only [nm]; refine tkA 6 hH ?_; simp only [nm]; refine tkA 7 hH ?_; simp only [nm]; refine tkA 8 hH ?_; simp only [nm]; refine tkA 9 hH ?_; simp only [nm]; refine tkA 10 hH ?_; simp only [nm]; refine tkA 11 hH ?_; simp only [nm]; refine tkA 12 hH ?_; simp only [nm]; refine tkA 13 hH ?_; simp only [nm]; refine tkA 14 hH ?_; simp only [nm]; refine tkA 15 hH ?_; simp only [nm]; refine tkA 16 hH ?_; simp only [nm]; refine tkA 17 hH ?_; simp only [nm]; refine tkA 18 hH ?_; simp only [nm]; refine tkA 19 hH ?_; simp only [nm]; refine tkA 20 hH ?_; simp only [nm]; refine tkA 21 hH ?_; simp only [nm]; refine tkA 22 hH ?_; simp only [nm]; refine tkA 23 hH ?_; simp only [nm]; refine tkA 24 hH ?_; simp only [nm]; refine tkA 25 hH ?_; simp only [nm]; refine tkA 26 hH ?_; simp only [nm]; refine tkA 27 hH ?_; simp only [nm]; refine tkA 28 hH ?_; simp only [nm]; refine tkA 29 hH ?_; simp only [nm]
    refine wpAnyM_done (by kernel_rfl) ?_ _
    go_wp2_with fail
    go_ret
    exact ⟨82, rfl, (fun h => by cases h), GB.out.drew⟩
   ·have b8 : (m.kind == 8) = false := by simp [h8]
    have HOI : Hid (okIn (ns.map Nd.kind) (f : Int) = true) := okIn_of HM.out h8
    clear h8
    as_aux_lemma =>
    have KC : Hid (∀ w' : World, Below wr.heap.size wr w' → w'.cell? ⟨w.heap.size + 1, 1, none⟩ = some (.slice (some ⟨xb, xo, none⟩) L icp) ∧ w'.cell? ⟨xb, xo + t, none⟩ = some (.int .i64 (f : Int)) ∧ w'.cell? ⟨w.heap.size, 0, none⟩ = some (.slice (some ⟨nb, no, none⟩) ns.length ncp) ∧ w'.cell? ⟨nb, no + f * 10, none⟩ = some (.int .i64 m.kind)) := fun w' h => ⟨(by rw [h.cell (p := ⟨w.heap.size + 1, 1, none⟩) GY.out.lt]; exact d1), (by rw [h.cell (p := ⟨xb, _, none⟩) (Nat.lt_of_lt_of_le xlt GB.out.size)]; exact cx2), (by rw [h.cell (p := ⟨w.heap.size, 0, none⟩) GX.out.lt]; exact cx), (by rw [h.cell (p := ⟨nb, _, none⟩) (Nat.lt_of_lt_of_le nlt GB.out.size)]; exact ck)⟩
    clear d0 d1 d2 d3 d4 d5 d6 d7 d8 d9 cx cx2 ck
    go_wp2_with fail
    have B1 : Hid (Below (wr).heap.size (wr) (wr).drew) := (Below.refl _ _).drew
    refine wp_region_M (S := fun w' => w'.cell? ⟨w.heap.size + 1, 1, none⟩ = some (.slice (some ⟨xb, xo, none⟩) L icp) ∧ w'.cell? ⟨xb, xo + t, none⟩ = some (.int .i64 (f : Int)) ∧ w'.cell? ⟨w.heap.size, 0, none⟩ = some (.slice (some ⟨nb, no, none⟩) ns.length ncp) ∧ w'.cell? ⟨nb, no + f * 10, none⟩ = some (.int .i64 m.kind)) (late := []) (by kernel_rfl) (KC.out _ B1.out) (fun hH => ?_)
    (try simp only [nr, Nat.reduceAdd])
    refine tkA 0 hH ?_; simp only [nm]; refine tkA 1 hH ?_; simp only [nm]; refine tkA 2 hH ?_; simp only [nm]; refine tkA 3 hH ?_; simp only [nm]; refine tkA 4 hH ?_; simp only [nm]; refine tkA 5 hH ?_; simp only [nm]; refine tkA 6 hH ?_; simp only [nm]; refine tkA 7 hH ?_; simp only [nm]; refine tkA 8 hH ?_; simp only [nm]; refine tkA 9 hH ?_; simp only [nm]; refine tkA 10 hH ?_; simp only [nm]; refine tkA 11 hH ?_; simp only [nm]; refine tkA 12 hH ?_; simp only [nm]; refine tkA 13 hH ?_; simp only [nm]; refine tkA 14 hH ?_; simp only [nm]; refine tkA 15 hH ?_; simp only [nm]; refine tkA 16 hH ?_; simp only [nm]; refine tkA 17 hH ?_; simp only [nm]; refine tkA 18 hH ?_; simp only [nm]; refine tkA 19 hH ?_; simp only [nm]; refine tkA 20 hH ?_; simp only [nm]; refine tkA 21 hH ?_; simp only [nm]; refine tkA 22 hH ?_; simp only [nm]; refine tkA 23 hH ?_; simp only [nm]; refine tkA 24 hH ?_; simp only [nm]; refine tkA 25 hH ?_; simp only [nm]; refine tkA 26 hH ?_; simp only [nm]; refine tkA 27 hH ?_; simp only [nm]; refine tkA 28 hH ?_; simp only [nm]; refine tkA 29 hH ?_; simp only [nm]
    refine wpAnyM_done (by kernel_rfl) ?_ _
    go_wp2_with fail
    go_roundg go
    case rel => exact ⟨t + 1, by go_num, by omega, by omega, GB.out.drew, GX.out, GY.out, ok_next GK.out HXX.out HOI.out⟩
    case measure => omega
  ·have bt : ¬ (t : Int) < (ins.length : Int) := by omega
   rw [hLL] at bt
   have hall : ∀ x ∈ ins, okIn (ns.map Nd.kind) x = true := fun x hx => by
    obtain ⟨j, hj⟩ := List.getElem?_of_mem hx
    exact GK.out j (by have := lt_of_get hj; omega) x hj
   have HOK0' := hide (HOK0.out HCN.out hall)
   have HOK : Hid (∀ (_ : 1 ≤ par ∧ par ≤ 4) (_ : eo = 0 ∧ en = 0 ∧ el.length = 0) (_ : ag = 0) (_ : wk = 0 ∧ ws = 0 ∧ wl = 0), CKE = 0) := fun h1 h2 h3 h4 => HOK0'.out h1 (by simp [exB, h2.1, h2.2.1, h2.2.2]) (by simp [aggB]; omega) (by simp [winB]; omega)
   clear hall HOK0' HOK0 GK HCN
   by_cases hp1 : par < 1
   ·go_wp2_with fail
    go_ret
    exact ⟨84, rfl, (fun h => by cases h), GB.out⟩
   by_cases hp2 : (4 : Int) < par
   ·go_wp2_with fail
    go_ret
    exact ⟨84, rfl, (fun h => by cases h), GB.out⟩
   have HZ := hide (zeroE_any eo en ea el.length ec wr)
   by_cases hz : eo = 0 ∧ en = 0 ∧ el.length = 0
   ·have hz2 : decide (eo = 0 ∧ en = 0 ∧ el.length = 0) = true := by simpa using hz
    rw [hz2] at HZ
    have HZZ := hide hz
    clear hz hz2
    by_cases ha1 : ag = 0
    ·subst ha1
     by_cases hwk : wk = 0
     ·by_cases hws : ws = 0
      ·by_cases hwl : wl = 0
       ·subst hwk hws hwl
        go_wp2_with (go_at_call 53; refine HZ.out.mono ?_; rintro e w2 ⟨rfl, b2⟩; have GZ2 := GY.out.below b2; rw [← HC.out] at GZ2; obtain ⟨q0, q1, q2, q3, q4, q5, q6, q7, q8, q9⟩ := GZ2.cells10; have B2 := hide (GB.out.trans (b2.mono GB.out.size)); clear b2 GZ2)
        go_ret
        exact ⟨0, rfl, (fun _ => HOK.out ⟨by omega, by omega⟩ HZZ.out (by first | trivial | rfl | omega) (by first | exact ⟨rfl, rfl, rfl⟩ | trivial | omega | simp)), B2.out⟩
       have g9 : (wl == 0) = false := by simp [hwl]
       subst hwk hws
       go_wp2_with (go_at_call 53; refine HZ.out.mono ?_; rintro e w2 ⟨rfl, b2⟩; have GZ2 := GY.out.below b2; rw [← HC.out] at GZ2; obtain ⟨q0, q1, q2, q3, q4, q5, q6, q7, q8, q9⟩ := GZ2.cells10; have B2 := hide (GB.out.trans (b2.mono GB.out.size)); clear b2 GZ2)
       go_ret
       exact ⟨87, rfl, (fun h => by cases h), B2.out⟩
      have g8 : (ws == 0) = false := by simp [hws]
      subst hwk
      go_wp2_with (go_at_call 53; refine HZ.out.mono ?_; rintro e w2 ⟨rfl, b2⟩; have GZ2 := GY.out.below b2; rw [← HC.out] at GZ2; obtain ⟨q0, q1, q2, q3, q4, q5, q6, q7, q8, q9⟩ := GZ2.cells10; have B2 := hide (GB.out.trans (b2.mono GB.out.size)); clear b2 GZ2)
      go_ret
      exact ⟨87, rfl, (fun h => by cases h), B2.out⟩
     have g7 : (wk == 0) = false := by simp [hwk]
     go_wp2_with (go_at_call 53; refine HZ.out.mono ?_; rintro e w2 ⟨rfl, b2⟩; have GZ2 := GY.out.below b2; rw [← HC.out] at GZ2; obtain ⟨q0, q1, q2, q3, q4, q5, q6, q7, q8, q9⟩ := GZ2.cells10; have B2 := hide (GB.out.trans (b2.mono GB.out.size)); clear b2 GZ2)
     go_ret
     exact ⟨87, rfl, (fun h => by cases h), B2.out⟩
    have g6 : (ag != 0) = true := by simp [ha1]
    go_wp2_with (go_at_call 53; refine HZ.out.mono ?_; rintro e w2 ⟨rfl, b2⟩; have GZ2 := GY.out.below b2; rw [← HC.out] at GZ2; obtain ⟨q0, q1, q2, q3, q4, q5, q6, q7, q8, q9⟩ := GZ2.cells10; have B2 := hide (GB.out.trans (b2.mono GB.out.size)); clear b2 GZ2)
    go_ret
    exact ⟨86, rfl, (fun h => by cases h), B2.out⟩
   have hz2 : decide (eo = 0 ∧ en = 0 ∧ el.length = 0) = false := by simpa using hz
   rw [hz2] at HZ
   clear hz hz2
   go_wp2_with (go_at_call 53; refine HZ.out.mono ?_; rintro e w2 ⟨rfl, b2⟩; have GZ2 := GY.out.below b2; rw [← HC.out] at GZ2; obtain ⟨q0, q1, q2, q3, q4, q5, q6, q7, q8, q9⟩ := GZ2.cells10; have B2 := hide (GB.out.trans (b2.mono GB.out.size)); clear b2 GZ2)
   go_ret
   exact ⟨85, rfl, (fun h => by cases h), B2.out⟩
end Go.Proofs.YtpcbhcdpegbfjaaGreat.J
