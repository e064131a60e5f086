/-
  JobHeavy walked.
-/
import Derived.Test.YtecaghjddoajmaaJHeavyP
namespace Go.Proofs.Ytecaghjddoajmaa
open Go.RowKit

def u8c (x : Int) : List Value := [.int .u8 x]
theorem wpl_step {ops : Array Oper} {Q : Exit → Act → World → Prop} {l : List Oper} {a : Act} {w : World} (h : ∀ W, W = w → wpList Try.prog ops Q l a W) : wpList Try.prog ops Q l a w := h w rfl
/-- A node of a law, that reduces. -/
def nRed (a c t : Nat) : Nd := ⟨6, some ⟨a, 0, none⟩, c, [(t : Int)], 1, e0, 4, 0, 0, 0⟩
theorem nRed_shp (a c t : Nat) : Shp (nRed a c t) := ⟨rfl, rfl, .inr (.inr (.inl ⟨rfl, rfl, rfl, rfl, rfl, rfl⟩))⟩
theorem u8_at {B : Nat} {w : World} {ao : Option Addr} {m cap : Nat} {l : List Int} (h : LSeg 1 u8c B w (.slice ao m cap) l) {k : Nat} {x : Int} (hx : l[k]? = some x) : ∃ b o, ao = some ⟨b, o, none⟩ ∧ b < B ∧ w.cell? ⟨b, o + k, none⟩ = some (.int .u8 x) := by
  obtain ⟨ao', cap', e, h2, h4⟩ := h
  cases e
  rcases h4 with h4 | ⟨b, off, h5, h6, h7⟩
  · subst h4; simp at hx
  · exact ⟨b, off, h5, h6, by simpa using h7 k x hx 0 _ rfl⟩
theorem OwnN.toI {base : Nat} {w : World} {v : Value} {l : List Nat} (h : OwnN base w v l) : OwnL 3 1 ic base w v (l.map Int.ofNat) := by
  unfold OwnN OwnL at *
  rw [List.length_map, List.flatMap_map]
  exact h
set_option maxHeartbeats 16000000 in
set_option maxRecDepth 100000 in
theorem JobHeavy_walk {w : World} {v : Value} {xs : List Int} (hv : LSeg 1 u8c w.heap.size w v xs) (hx : ∀ x ∈ xs, 0 ≤ x ∧ x ≤ 255) :
    Calls Try.prog 7 #[v] w fun e w' => e = .returned (.bool true) ∧ Below w.heap.size w w' := by
  obtain ⟨sa, scap, rfl⟩ := hv.shape
  have HK := hide (known_any w)
  have HV := hide hv
  have HX := hide hx
  clear hv hx
  by_cases h9 : xs.length ≤ 9
  · have h9' : (xs.length : Int) ≤ 9 := by omega
    go_enter Try.func7, Try.ntmps7
    go_wp2_with (go_at_call 8; refine HK.out.mono ?_; rintro e w1 ⟨rfl, b1⟩; have B1 := hide b1; clear b1 HK)
    go_loopg [4, 5, 6] (xs.length + 1) (fun g pv hv iv wr => ∃ (t p : Nat) (hb : Bool) (v : Value) (ns : List Nd), pv = .int .i64 (p : Int) ∧ hv = .bool hb ∧ iv = .int .i64 (t : Int) ∧ t ≤ xs.length ∧ xs.length + 1 ≤ g + t ∧ Hid (JB w1.heap.size wr (w1.heap.size + 1) v ns) ∧ Hid (Hv ns t p hb) ∧ Hid (Below w1.heap.size w1 wr))
    case atStart =>
      refine ⟨0, 1, false, _, [cSrc], rfl, rfl, rfl, by omega, by omega, ⟨BoxT.new_at (by simp), OwnL.mk1 (Nd.cs_len _) (Nat.le_refl _) ((BoxT.new 49 w1 _).alloc _), fun n hn => ?_, by omega⟩, Hv.init, ((Below.refl _ _).alloc (Nat.le_refl _) _).alloc (by simp) _⟩
      rcases List.mem_singleton.1 hn with rfl
      exact OwnL.nil _ _ _ _ _
    case round =>
      obtain ⟨t, p, hb, v, ns, rfl, rfl, rfl, ht, hg, GJ, GH, GB⟩ := hrel
      obtain ⟨wo, rfl⟩ : ∃ wo, wo = wr := ⟨wr, rfl⟩
      obtain ⟨go, rfl⟩ : ∃ go, gk = go + 1 := ⟨gk - 1, by omega⟩
      obtain ⟨va, vc, rfl⟩ := GJ.out.row.shape
      have HNL : Hid (ns.length = t + 1) := GH.out.len
      have hnl1 : ns.length ≤ 1000 := by rw [HNL.out]; omega
      obtain ⟨cK, fK⟩ := GJ.out.cell
      have hKlt := GJ.out.box.lt
      have hp65 := GH.out.p65
      have GBw := hide (B1.out.trans (GB.out.mono B1.out.size))
      by_cases hlt : t < xs.length
      · obtain ⟨x, hx⟩ := get_of_lt hlt
        obtain ⟨xb, xo, rfl, xlt, cx⟩ := u8_at (HV.out.below GBw.out) hx
        obtain ⟨x0, x1⟩ := HX.out x (List.mem_of_getElem? hx)
        obtain ⟨k, rfl⟩ : ∃ k : Nat, x = (k : Int) := ⟨x.toNat, by omega⟩
        have hkb : k ≤ 255 := by omega
        have bt : (t : Int) < (xs.length : Int) := by omega
        have hxl : xb < wo.heap.size := by have := GBw.out.size; omega
        have hK1 : ¬ w1.heap.size + 1 = wo.heap.size := by omega
        have hK2 : ¬ w1.heap.size = wo.heap.size := by omega
        have hK3 : w1.heap.size < wo.heap.size := by omega
        have hxl1 : xb < wo.heap.size + 1 := by omega
        clear hx x0 x1
        rcases (show k % 3 = 0 ∨ k % 3 = 1 ∨ k % 3 = 2 by omega) with h3 | h3 | h3
        · have r1 : (k : Int) % 3 = 0 := by omega
          have r2 : (k : Int).tmod 3 = 0 := by rw [Int.tmod_eq_emod_of_nonneg (by omega)]; omega
          obtain ⟨d, hd⟩ : ∃ d, k / 3 = d := ⟨_, rfl⟩
          obtain ⟨c, hc⟩ : ∃ c, d % 4 = c := ⟨_, rfl⟩
          have q1 : (k : Int) / 3 = (d : Int) := by omega
          have q2 : (k : Int).tdiv 3 = (d : Int) := by rw [Int.tdiv_eq_ediv_of_nonneg (by omega)]; omega
          have q3 : (d : Int) % 4 = (c : Int) := by omega
          have q4 : (d : Int).tmod 4 = (c : Int) := by rw [Int.tmod_eq_emod_of_nonneg (by omega)]; omega
          have hc3 : c ≤ 3 := by omega
          have hdb : d ≤ 255 := by omega
          obtain ⟨M, hM⟩ : ∃ M, c + 1 = M := ⟨_, rfl⟩
          clear hd hc
          go_wp2_with fail
          go_loopg [9] (M + 1) (fun g jv wi => ∃ (j : Nat) (u : Value), jv = .int .i64 (j : Int) ∧ j ≤ M ∧ M + 1 ≤ g + j ∧ Hid (OwnN wo.heap.size wi u (List.replicate j t)) ∧ Hid (BoxT 49 wi (wo.heap.size + 1) #[.int .i64 5, u, .int .i64 1, .int .i64 0, .int .i64 0, .slice none 0 0, .int .i64 0, .int .i64 0, .int .i64 0, .int .i64 0]) ∧ Hid (Below wo.heap.size wo wi))
          case atStart => exact ⟨0, .slice none 0 0, rfl, by omega, by omega, OwnL.nil _ _ _ _ _, BoxT.new_at (by simp), ((Below.refl _ _).alloc (Nat.le_refl _) _).alloc (by simp) _⟩
          case round =>
            obtain ⟨j, u, rfl, hj, hgj, GO, GX, GI⟩ := hrel
            obtain ⟨gi, rfl⟩ : ∃ gi, gk = gi + 1 := ⟨gk - 1, by omega⟩
            obtain ⟨ua, uc, hu⟩ := GO.out.shape
            rw [List.length_replicate] at hu
            subst hu
            obtain ⟨d0, d1, d2, d3, d4, d5, d6, d7, d8, d9⟩ := GX.out.cells10
            have hwsz : wo.heap.size + 1 < wr.heap.size := GX.out.lt
            by_cases hlj : j < M
            · have bj : (j : Int) ≤ (c : Int) := by omega
              have hba : Below wr.heap.size wr (wr.alloc (.cells #[.int .i64 (t : Int)] 3)) := (Below.refl _ _).alloc (Nat.le_refl _) _
              have GO2 := hide (GO.out.below hba)
              have GX2 := hide (GX.out.below hba)
              have HNW : Hid ((wr.alloc (.cells #[.int .i64 (t : Int)] 3)).cell? ⟨wr.heap.size, 0, none⟩ = some (.int .i64 (t : Int))) := by rw [(BoxT.new 3 wr _).cellAt]; rfl
              have HBS : Hid (wo.heap.size ≤ (wr.alloc (.cells #[.int .i64 (t : Int)] 3)).heap.size) := (show _ ≤ _ from Nat.le_trans GI.out.size hba.size)
              have HBA := hide hba
              have hrl : (List.replicate j t).length ≤ 1000000 := by rw [List.length_replicate]; omega
              clear hba
              go_wp2_with (at_builtin; refine app_ownN (sl := 31) (by kernel_rfl) rfl _ _ rfl wo.heap.size (.slice ua j uc) (List.replicate j t) rfl GO2.out ⟨wr.heap.size, 0, none⟩ 1 t rfl HNW.out hrl HBS.out ?_; intro v4 w4 h4 g4 n4; obtain ⟨a4, c4, hv4⟩ := h4.shape; rw [List.length_append, List.length_replicate, List.length_singleton] at hv4; subst hv4; have G4 := hide (GX2.out.grownO g4 (fun e => (by obtain ⟨cur, hcur⟩ := GO2.out.has _ e.symm; exact GX2.out.ne (t' := 3) hcur (by decide) rfl))); have c5 : w4.cell? ⟨wo.heap.size + 1, 1, none⟩ = some (.slice ua j uc) := (by rw [G4.out.cellAt]; rfl); have f5 := G4.out.free 1)
              go_roundg gi
              case rel =>
                refine ⟨j + 1, .slice a4 (j + 1) c4, by go_num, by omega, by omega, ?_, (by have := G4.out.set 1 (.slice a4 (j + 1) c4); simp at this; exact this), ?_⟩
                · rw [List.replicate_succ']
                  exact OwnN.other h4 (fun b e => by
                    obtain ⟨cur, hcur⟩ := h4.has b e
                    exact BoxT.ne (t := 3) hcur G4.out (by decide))
                · refine Below.setCell ?_ (by simp) _
                  exact GI.out.trans ((HBA.out.mono GI.out.size).trans ⟨g4.os, g4.tape, g4.output, g4.size, fun b hb => g4.block b (by have := GI.out.size; simp; omega) (fun e => by have := GO2.out.at b e.symm; omega)⟩)
              case measure => omega
            · obtain rfl : j = M := by omega
              have bj : ¬ (j : Int) ≤ (c : Int) := by omega
              obtain ⟨P, hP⟩ : ∃ P, p * j = P := ⟨_, rfl⟩
              have hP1 : (p : Int) * (j : Int) = (P : Int) := by rw [← hP]; push_cast; rfl
              have hj4 : j ≤ 4 := by omega
              have hP2 : P ≤ 65 * 4 := by rw [← hP]; exact Nat.mul_le_mul hp65 hj4
              have HSTEP : Hid (stepW ⟨5, ua, uc, List.replicate j (t : Int), 1, e0, 0, 0, 0, 0⟩ p = min P 65) := (show stepW ⟨5, ua, uc, List.replicate j (t : Int), 1, e0, 0, 0, 0, 0⟩ p = min P 65 by
                show (if (5 : Int) = 1 then 1 else min ((List.replicate j (t : Int)).length * p * (if (5 : Int) = 7 ∧ (0 : Int) = 2 then _ else 1)) 65) = min P 65
                rw [if_neg (by decide), if_neg (by decide), Nat.mul_one, List.length_replicate, ← hP, Nat.mul_comm])
              have HSHP : Hid (Shp ⟨5, ua, uc, List.replicate j (t : Int), 1, e0, 0, 0, 0, 0⟩) := ⟨rfl, rfl, .inr (.inl ⟨rfl, by simp; omega, rfl, rfl, rfl, rfl⟩)⟩
              have HNE : Hid ((⟨5, ua, uc, List.replicate j (t : Int), 1, e0, 0, 0, 0, 0⟩ : Nd).ins ≠ []) := (show List.replicate j (t : Int) ≠ [] by
                intro e
                have := congrArg List.length e
                rw [List.length_replicate, List.length_nil] at this
                omega)
              have HXS : Hid (∀ x ∈ (⟨5, ua, uc, List.replicate j (t : Int), 1, e0, 0, 0, 0, 0⟩ : Nd).ins, x = (t : Int)) := fun x hx => (List.mem_replicate.1 hx).2
              have cKi := (GJ.out.below GI.out).cell.1
              have hKi : w1.heap.size + 1 < wr.heap.size := by omega
              have hOI : OwnL 3 1 ic w1.heap.size wr (.slice ua j uc) (List.replicate j (t : Int)) := by
                have := OwnN.toI GO.out
                rw [List.map_replicate] at this
                exact OwnL.mono this GB.out.size
              have HOI := hide hOI
              clear hP hOI cK hM
              have hb2 : Below wo.heap.size wo (wr.alloc (.cells #[.int .i64 5, .slice ua j uc, .int .i64 1, .int .i64 0, .int .i64 0, .slice none 0 0, .int .i64 0, .int .i64 0, .int .i64 0, .int .i64 0] 49)) := GI.out.alloc GI.out.size _
              have J2 := hide (GJ.out.below hb2)
              have HI : Hid (OwnL 3 1 ic w1.heap.size (wr.alloc (.cells #[.int .i64 5, .slice ua j uc, .int .i64 1, .int .i64 0, .int .i64 0, .slice none 0 0, .int .i64 0, .int .i64 0, .int .i64 0, .int .i64 0] 49)) (.slice ua (List.replicate j (t : Int)).length uc) (List.replicate j (t : Int))) := (show OwnL 3 1 ic w1.heap.size (wr.alloc (.cells #[.int .i64 5, .slice ua j uc, .int .i64 1, .int .i64 0, .int .i64 0, .slice none 0 0, .int .i64 0, .int .i64 0, .int .i64 0, .int .i64 0] 49)) (.slice ua (List.replicate j (t : Int)).length uc) (List.replicate j (t : Int)) by
                rw [List.length_replicate]; exact HOI.out.alloc _)
              have HN : Hid (∀ (i : Nat) (u : Value), (Nd.cs ⟨5, ua, uc, List.replicate j (t : Int), 1, e0, 0, 0, 0, 0⟩)[i]? = some u → (wr.alloc (.cells #[.int .i64 5, .slice ua j uc, .int .i64 1, .int .i64 0, .int .i64 0, .slice none 0 0, .int .i64 0, .int .i64 0, .int .i64 0, .int .i64 0] 49)).cell? ((⟨wr.heap.size, 0, none⟩ : Addr).add i) = some u) := fun i u hi => by
                have hcs : Nd.cs ⟨5, ua, uc, List.replicate j (t : Int), 1, e0, 0, 0, 0, 0⟩ = [.int .i64 5, .slice ua j uc, .int .i64 1, .int .i64 0, .int .i64 0, .slice none 0 0, .int .i64 0, .int .i64 0, .int .i64 0, .int .i64 0] := by simp [Nd.cs, e0]
                rw [hcs] at hi
                rw [add_plain2, Nat.zero_add, (BoxT.new 49 wr _).cellAt]
                simpa using hi
              have HBZ : Hid (w1.heap.size ≤ (wr.alloc (.cells #[.int .i64 5, .slice ua j uc, .int .i64 1, .int .i64 0, .int .i64 0, .slice none 0 0, .int .i64 0, .int .i64 0, .int .i64 0, .int .i64 0] 49)).heap.size) := (show _ ≤ _ from Nat.le_trans GB.out.size hb2.size)
              have HB2 := hide hb2
              clear hb2
              rcases (show (¬ (64 : Int) < (P : Int) ∧ ¬ (65 : Int) < (P : Int)) ∨ ((64 : Int) < (P : Int) ∧ ¬ (65 : Int) < (P : Int)) ∨ ((64 : Int) < (P : Int) ∧ (65 : Int) < (P : Int)) by omega) with ⟨hc1, hc2⟩ | ⟨hc1, hc2⟩ | ⟨hc1, hc2⟩
              · have hq : stepW ⟨5, ua, uc, List.replicate j (t : Int), 1, e0, 0, 0, 0, 0⟩ p = P := by rw [HSTEP.out]; omega
                cases hb with
                | true =>
                  have HH : Hid (Hv (ns ++ [⟨5, ua, uc, List.replicate j (t : Int), 1, e0, 0, 0, 0, 0⟩]) (t + 1) P true) := GH.out.push HSHP.out (by simp) HNE.out HXS.out hq (by simp)
                  clear hq
                  go_wp2_with (at_builtin; refine app_nd rfl _ _ rfl w1.heap.size (.slice va ns.length vc) ns rfl J2.out.row ⟨wr.heap.size, 0, none⟩ 1 ⟨5, ua, uc, List.replicate j (t : Int), 1, e0, 0, 0, 0, 0⟩ rfl HN.out hnl1 HBZ.out ?_; intro v4 w4 h4 g4 n4; obtain ⟨a4, c4, hv4⟩ := h4.shape; rw [List.length_append, List.length_singleton] at hv4; subst hv4; have JG := hide (J2.out.grown h4 g4 HI.out); have c5 : w4.cell? ⟨w1.heap.size + 1, 0, none⟩ = some (.slice va ns.length vc) := (by rw [JG.out.1.cellAt]; rfl); have f5 := JG.out.1.free 0)
                  go_roundg go
                  case rel => exact ⟨t + 1, P, true, _, _, rfl, rfl, by go_num, by omega, by omega, JG.out.2, HH, GB.out.trans ((HB2.out.mono GB.out.size).trans (J2.out.grownBelow g4 HBZ.out))⟩
                  case measure => omega
                | false =>
                  have HH : Hid (Hv (ns ++ [⟨5, ua, uc, List.replicate j (t : Int), 1, e0, 0, 0, 0, 0⟩]) (t + 1) P false) := GH.out.push HSHP.out (by simp) HNE.out HXS.out hq (by first | (simp; done) | (simp; omega))
                  clear hq
                  go_wp2_with (at_builtin; refine app_nd rfl _ _ rfl w1.heap.size (.slice va ns.length vc) ns rfl J2.out.row ⟨wr.heap.size, 0, none⟩ 1 ⟨5, ua, uc, List.replicate j (t : Int), 1, e0, 0, 0, 0, 0⟩ rfl HN.out hnl1 HBZ.out ?_; intro v4 w4 h4 g4 n4; obtain ⟨a4, c4, hv4⟩ := h4.shape; rw [List.length_append, List.length_singleton] at hv4; subst hv4; have JG := hide (J2.out.grown h4 g4 HI.out); have c5 : w4.cell? ⟨w1.heap.size + 1, 0, none⟩ = some (.slice va ns.length vc) := (by rw [JG.out.1.cellAt]; rfl); have f5 := JG.out.1.free 0)
                  go_roundg go
                  case rel => exact ⟨t + 1, P, false, _, _, rfl, rfl, by go_num, by omega, by omega, JG.out.2, HH, GB.out.trans ((HB2.out.mono GB.out.size).trans (J2.out.grownBelow g4 HBZ.out))⟩
                  case measure => omega
              · have hq : stepW ⟨5, ua, uc, List.replicate j (t : Int), 1, e0, 0, 0, 0, 0⟩ p = P := by rw [HSTEP.out]; omega
                cases hb with
                | true =>
                  have HH : Hid (Hv (ns ++ [⟨5, ua, uc, List.replicate j (t : Int), 1, e0, 0, 0, 0, 0⟩]) (t + 1) P true) := GH.out.push HSHP.out (by simp) HNE.out HXS.out hq (by simp)
                  clear hq
                  go_wp2_with (at_builtin; refine app_nd rfl _ _ rfl w1.heap.size (.slice va ns.length vc) ns rfl J2.out.row ⟨wr.heap.size, 0, none⟩ 1 ⟨5, ua, uc, List.replicate j (t : Int), 1, e0, 0, 0, 0, 0⟩ rfl HN.out hnl1 HBZ.out ?_; intro v4 w4 h4 g4 n4; obtain ⟨a4, c4, hv4⟩ := h4.shape; rw [List.length_append, List.length_singleton] at hv4; subst hv4; have JG := hide (J2.out.grown h4 g4 HI.out); have c5 : w4.cell? ⟨w1.heap.size + 1, 0, none⟩ = some (.slice va ns.length vc) := (by rw [JG.out.1.cellAt]; rfl); have f5 := JG.out.1.free 0)
                  go_roundg go
                  case rel => exact ⟨t + 1, P, true, _, _, rfl, rfl, by go_num, by omega, by omega, JG.out.2, HH, GB.out.trans ((HB2.out.mono GB.out.size).trans (J2.out.grownBelow g4 HBZ.out))⟩
                  case measure => omega
                | false =>
                  have HH : Hid (Hv (ns ++ [⟨5, ua, uc, List.replicate j (t : Int), 1, e0, 0, 0, 0, 0⟩]) (t + 1) P true) := GH.out.push HSHP.out (by simp) HNE.out HXS.out hq (by first | (simp; done) | (simp; omega))
                  clear hq
                  go_wp2_with (at_builtin; refine app_nd rfl _ _ rfl w1.heap.size (.slice va ns.length vc) ns rfl J2.out.row ⟨wr.heap.size, 0, none⟩ 1 ⟨5, ua, uc, List.replicate j (t : Int), 1, e0, 0, 0, 0, 0⟩ rfl HN.out hnl1 HBZ.out ?_; intro v4 w4 h4 g4 n4; obtain ⟨a4, c4, hv4⟩ := h4.shape; rw [List.length_append, List.length_singleton] at hv4; subst hv4; have JG := hide (J2.out.grown h4 g4 HI.out); have c5 : w4.cell? ⟨w1.heap.size + 1, 0, none⟩ = some (.slice va ns.length vc) := (by rw [JG.out.1.cellAt]; rfl); have f5 := JG.out.1.free 0)
                  go_roundg go
                  case rel => exact ⟨t + 1, P, true, _, _, rfl, rfl, by go_num, by omega, by omega, JG.out.2, HH, GB.out.trans ((HB2.out.mono GB.out.size).trans (J2.out.grownBelow g4 HBZ.out))⟩
                  case measure => omega
              · have hq : stepW ⟨5, ua, uc, List.replicate j (t : Int), 1, e0, 0, 0, 0, 0⟩ p = 65 := by rw [HSTEP.out]; omega
                cases hb with
                | true =>
                  have HH : Hid (Hv (ns ++ [⟨5, ua, uc, List.replicate j (t : Int), 1, e0, 0, 0, 0, 0⟩]) (t + 1) 65 true) := GH.out.push HSHP.out (by simp) HNE.out HXS.out hq (by simp)
                  clear hq
                  go_wp2_with (at_builtin; refine app_nd rfl _ _ rfl w1.heap.size (.slice va ns.length vc) ns rfl J2.out.row ⟨wr.heap.size, 0, none⟩ 1 ⟨5, ua, uc, List.replicate j (t : Int), 1, e0, 0, 0, 0, 0⟩ rfl HN.out hnl1 HBZ.out ?_; intro v4 w4 h4 g4 n4; obtain ⟨a4, c4, hv4⟩ := h4.shape; rw [List.length_append, List.length_singleton] at hv4; subst hv4; have JG := hide (J2.out.grown h4 g4 HI.out); have c5 : w4.cell? ⟨w1.heap.size + 1, 0, none⟩ = some (.slice va ns.length vc) := (by rw [JG.out.1.cellAt]; rfl); have f5 := JG.out.1.free 0)
                  go_roundg go
                  case rel => exact ⟨t + 1, 65, true, _, _, rfl, rfl, by go_num, by omega, by omega, JG.out.2, HH, GB.out.trans ((HB2.out.mono GB.out.size).trans (J2.out.grownBelow g4 HBZ.out))⟩
                  case measure => omega
                | false =>
                  have HH : Hid (Hv (ns ++ [⟨5, ua, uc, List.replicate j (t : Int), 1, e0, 0, 0, 0, 0⟩]) (t + 1) 65 true) := GH.out.push HSHP.out (by simp) HNE.out HXS.out hq (by first | (simp; done) | (simp; omega))
                  clear hq
                  go_wp2_with (at_builtin; refine app_nd rfl _ _ rfl w1.heap.size (.slice va ns.length vc) ns rfl J2.out.row ⟨wr.heap.size, 0, none⟩ 1 ⟨5, ua, uc, List.replicate j (t : Int), 1, e0, 0, 0, 0, 0⟩ rfl HN.out hnl1 HBZ.out ?_; intro v4 w4 h4 g4 n4; obtain ⟨a4, c4, hv4⟩ := h4.shape; rw [List.length_append, List.length_singleton] at hv4; subst hv4; have JG := hide (J2.out.grown h4 g4 HI.out); have c5 : w4.cell? ⟨w1.heap.size + 1, 0, none⟩ = some (.slice va ns.length vc) := (by rw [JG.out.1.cellAt]; rfl); have f5 := JG.out.1.free 0)
                  go_roundg go
                  case rel => exact ⟨t + 1, 65, true, _, _, rfl, rfl, by go_num, by omega, by omega, JG.out.2, HH, GB.out.trans ((HB2.out.mono GB.out.size).trans (J2.out.grownBelow g4 HBZ.out))⟩
                  case measure => omega
        · have r1 : (k : Int) % 3 = 1 := by omega
          have r2 : (k : Int).tmod 3 = 1 := by rw [Int.tmod_eq_emod_of_nonneg (by omega)]; omega
          obtain ⟨d, hd⟩ : ∃ d, k / 3 = d := ⟨_, rfl⟩
          obtain ⟨e, he⟩ : ∃ e, d % 7 = e := ⟨_, rfl⟩
          obtain ⟨d', hd'⟩ : ∃ d', k / 21 = d' := ⟨_, rfl⟩
          obtain ⟨e', he'⟩ : ∃ e', d' % 4 = e' := ⟨_, rfl⟩
          have q1 : (k : Int) / 3 = (d : Int) := by omega
          have q2 : (k : Int).tdiv 3 = (d : Int) := by rw [Int.tdiv_eq_ediv_of_nonneg (by omega)]; omega
          have q3 : (d : Int) % 7 = (e : Int) := by omega
          have q4 : (d : Int).tmod 7 = (e : Int) := by rw [Int.tmod_eq_emod_of_nonneg (by omega)]; omega
          have q5 : (k : Int) / 21 = (d' : Int) := by omega
          have q6 : (k : Int).tdiv 21 = (d' : Int) := by rw [Int.tdiv_eq_ediv_of_nonneg (by omega)]; omega
          have q7 : (d' : Int) % 4 = (e' : Int) := by omega
          have q8 : (d' : Int).tmod 4 = (e' : Int) := by rw [Int.tmod_eq_emod_of_nonneg (by omega)]; omega
          have he6 : e ≤ 6 := by omega
          have he3 : e' ≤ 3 := by omega
          have hdb : d ≤ 255 := by omega
          have hdb' : d' ≤ 255 := by omega
          obtain ⟨sz, hsz⟩ : ∃ sz : Int, 1 + (e : Int) = sz := ⟨_, rfl⟩
          obtain ⟨sl, hsl⟩ : ∃ sl : Int, 1 + (e' : Int) = sl := ⟨_, rfl⟩
          have hz1 : 1 ≤ sz ∧ sz ≤ 7 := by omega
          have hz2 : 1 ≤ sl ∧ sl ≤ 4 := by omega
          have hz0 : 0 ≤ (sz + sl - 1) / sl := Int.ediv_nonneg (by omega) (by omega)
          have hz3 : (sz + sl - 1) / sl ≤ sz + sl - 1 := Int.ediv_le_self _ (by omega)
          obtain ⟨m, hm⟩ : ∃ m : Nat, (sz + sl - 1) / sl = (m : Int) := ⟨((sz + sl - 1) / sl).toNat, by omega⟩
          have hm' : (sz + sl - 1).tdiv sl = (m : Int) := by rw [Int.tdiv_eq_ediv_of_nonneg (by omega)]; exact hm
          have hm10 : m ≤ 10 := by omega
          obtain ⟨P, hP⟩ : ∃ P, p * m = P := ⟨_, rfl⟩
          have hP1 : (p : Int) * (m : Int) = (P : Int) := by rw [← hP]; push_cast; rfl
          have hP2 : P ≤ 65 * 10 := by rw [← hP]; exact Nat.mul_le_mul hp65 hm10
          have hsl0 : sl ≠ 0 := by omega
          have hslz : (sl == 0) = false := by simp; omega
          have HSTEP : Hid (stepW ⟨7, some ⟨wo.heap.size, 0, none⟩, 1, [(t : Int)], 1, e0, 1, 2, sz, sl⟩ p = min P 65) := (show stepW ⟨7, some ⟨wo.heap.size, 0, none⟩, 1, [(t : Int)], 1, e0, 1, 2, sz, sl⟩ p = min P 65 by
            show (if (7 : Int) = 1 then 1 else min (1 * p * (if (7 : Int) = 7 ∧ (2 : Int) = 2 then ((sz + sl - 1) / sl).toNat else 1)) 65) = min P 65
            rw [if_neg (by decide), if_pos ⟨rfl, rfl⟩, hm, ← hP, Int.toNat_natCast, Nat.one_mul])
          have HSHP : Hid (Shp ⟨7, some ⟨wo.heap.size, 0, none⟩, 1, [(t : Int)], 1, e0, 1, 2, sz, sl⟩) := ⟨rfl, rfl, .inr (.inr (.inr (.inl ⟨rfl, rfl, rfl, rfl, hz1, hz2⟩)))⟩
          have HNE : Hid ((⟨7, some ⟨wo.heap.size, 0, none⟩, 1, [(t : Int)], 1, e0, 1, 2, sz, sl⟩ : Nd).ins ≠ []) := (show ([(t : Int)] : List Int) ≠ [] by simp)
          have HXS : Hid (∀ x ∈ (⟨7, some ⟨wo.heap.size, 0, none⟩, 1, [(t : Int)], 1, e0, 1, 2, sz, sl⟩ : Nd).ins, x = (t : Int)) := fun x hx => by simpa using hx
          clear hz0 hz3 hP hd he hd' he'
          obtain ⟨hz1, hz1'⟩ := hz1
          obtain ⟨hz2, hz2'⟩ := hz2
          have hb2 : Below wo.heap.size wo (((wo.alloc (.cells (ic (t : Int)).toArray 3)).alloc (.cells (Nd.cs ⟨7, some ⟨wo.heap.size, 0, none⟩, 1, [(t : Int)], 1, e0, 1, 2, sz, sl⟩).toArray 49)).alloc (.cells (Nd.cs ⟨7, some ⟨wo.heap.size, 0, none⟩, 1, [(t : Int)], 1, e0, 1, 2, sz, sl⟩).toArray 49)) := (((Below.refl _ _).alloc (Nat.le_refl _) _).alloc (by simp) _).alloc (by simp; omega) _
          have J2 := hide (GJ.out.below hb2)
          have HI : Hid (OwnL 3 1 ic w1.heap.size (((wo.alloc (.cells (ic (t : Int)).toArray 3)).alloc (.cells (Nd.cs ⟨7, some ⟨wo.heap.size, 0, none⟩, 1, [(t : Int)], 1, e0, 1, 2, sz, sl⟩).toArray 49)).alloc (.cells (Nd.cs ⟨7, some ⟨wo.heap.size, 0, none⟩, 1, [(t : Int)], 1, e0, 1, 2, sz, sl⟩).toArray 49)) (.slice (some ⟨wo.heap.size, 0, none⟩) 1 1) [(t : Int)]) := OwnL.mk1 (ic_len _) GB.out.size (((BoxT.new 3 wo _).alloc _).alloc _)
          have HN : Hid (∀ (j : Nat) (u : Value), (Nd.cs ⟨7, some ⟨wo.heap.size, 0, none⟩, 1, [(t : Int)], 1, e0, 1, 2, sz, sl⟩)[j]? = some u → (((wo.alloc (.cells (ic (t : Int)).toArray 3)).alloc (.cells (Nd.cs ⟨7, some ⟨wo.heap.size, 0, none⟩, 1, [(t : Int)], 1, e0, 1, 2, sz, sl⟩).toArray 49)).alloc (.cells (Nd.cs ⟨7, some ⟨wo.heap.size, 0, none⟩, 1, [(t : Int)], 1, e0, 1, 2, sz, sl⟩).toArray 49)).cell? ((⟨wo.heap.size + 1 + 1, 0, none⟩ : Addr).add j) = some u) := fun j u hj => by
            rw [add_plain2, Nat.zero_add, (BoxT.new_at (t := 49) (w := (wo.alloc (.cells (ic (t : Int)).toArray 3)).alloc (.cells (Nd.cs ⟨7, some ⟨wo.heap.size, 0, none⟩, 1, [(t : Int)], 1, e0, 1, 2, sz, sl⟩).toArray 49)) (cs := (Nd.cs ⟨7, some ⟨wo.heap.size, 0, none⟩, 1, [(t : Int)], 1, e0, 1, 2, sz, sl⟩).toArray) (by simp)).cellAt]
            simpa using hj
          have HBZ : Hid (w1.heap.size ≤ (((wo.alloc (.cells (ic (t : Int)).toArray 3)).alloc (.cells (Nd.cs ⟨7, some ⟨wo.heap.size, 0, none⟩, 1, [(t : Int)], 1, e0, 1, 2, sz, sl⟩).toArray 49)).alloc (.cells (Nd.cs ⟨7, some ⟨wo.heap.size, 0, none⟩, 1, [(t : Int)], 1, e0, 1, 2, sz, sl⟩).toArray 49)).heap.size) := (show _ ≤ _ from Nat.le_trans GB.out.size hb2.size)
          have HB2 := hide hb2
          clear hb2
          unfold ic Nd.cs e0 at J2 HI HN HBZ HB2
          simp only at J2 HI HN HBZ HB2
          rcases (show (¬ (64 : Int) < (P : Int) ∧ ¬ (65 : Int) < (P : Int)) ∨ ((64 : Int) < (P : Int) ∧ ¬ (65 : Int) < (P : Int)) ∨ ((64 : Int) < (P : Int) ∧ (65 : Int) < (P : Int)) by omega) with ⟨hc1, hc2⟩ | ⟨hc1, hc2⟩ | ⟨hc1, hc2⟩
          · have hq : stepW ⟨7, some ⟨wo.heap.size, 0, none⟩, 1, [(t : Int)], 1, e0, 1, 2, sz, sl⟩ p = P := by rw [HSTEP.out]; omega
            cases hb with
            | true =>
              have HH : Hid (Hv (ns ++ [⟨7, some ⟨wo.heap.size, 0, none⟩, 1, [(t : Int)], 1, e0, 1, 2, sz, sl⟩]) (t + 1) P true) := GH.out.push HSHP.out (by simp) HNE.out HXS.out hq (by simp)
              clear hq
              go_wp2_with (at_builtin; refine app_nd rfl _ _ rfl w1.heap.size (.slice va ns.length vc) ns rfl J2.out.row ⟨wo.heap.size + 1 + 1, 0, none⟩ 1 ⟨7, some ⟨wo.heap.size, 0, none⟩, 1, [(t : Int)], 1, e0, 1, 2, sz, sl⟩ rfl HN.out hnl1 HBZ.out ?_; intro v4 w4 h4 g4 n4; obtain ⟨a4, c4, hv4⟩ := h4.shape; rw [List.length_append, List.length_singleton] at hv4; subst hv4; have JG := hide (J2.out.grown h4 g4 HI.out); have c5 : w4.cell? ⟨w1.heap.size + 1, 0, none⟩ = some (.slice va ns.length vc) := (by rw [JG.out.1.cellAt]; rfl); have f5 := JG.out.1.free 0)
              go_roundg go
              case rel => exact ⟨t + 1, P, true, _, _, rfl, rfl, by go_num, by omega, by omega, JG.out.2, HH, GB.out.trans ((HB2.out.mono GB.out.size).trans (J2.out.grownBelow g4 HBZ.out))⟩
              case measure => omega
            | false =>
              have HH : Hid (Hv (ns ++ [⟨7, some ⟨wo.heap.size, 0, none⟩, 1, [(t : Int)], 1, e0, 1, 2, sz, sl⟩]) (t + 1) P false) := GH.out.push HSHP.out (by simp) HNE.out HXS.out hq (by first | (simp; done) | (simp; omega))
              clear hq
              go_wp2_with (at_builtin; refine app_nd rfl _ _ rfl w1.heap.size (.slice va ns.length vc) ns rfl J2.out.row ⟨wo.heap.size + 1 + 1, 0, none⟩ 1 ⟨7, some ⟨wo.heap.size, 0, none⟩, 1, [(t : Int)], 1, e0, 1, 2, sz, sl⟩ rfl HN.out hnl1 HBZ.out ?_; intro v4 w4 h4 g4 n4; obtain ⟨a4, c4, hv4⟩ := h4.shape; rw [List.length_append, List.length_singleton] at hv4; subst hv4; have JG := hide (J2.out.grown h4 g4 HI.out); have c5 : w4.cell? ⟨w1.heap.size + 1, 0, none⟩ = some (.slice va ns.length vc) := (by rw [JG.out.1.cellAt]; rfl); have f5 := JG.out.1.free 0)
              go_roundg go
              case rel => exact ⟨t + 1, P, false, _, _, rfl, rfl, by go_num, by omega, by omega, JG.out.2, HH, GB.out.trans ((HB2.out.mono GB.out.size).trans (J2.out.grownBelow g4 HBZ.out))⟩
              case measure => omega
          · have hq : stepW ⟨7, some ⟨wo.heap.size, 0, none⟩, 1, [(t : Int)], 1, e0, 1, 2, sz, sl⟩ p = P := by rw [HSTEP.out]; omega
            cases hb with
            | true =>
              have HH : Hid (Hv (ns ++ [⟨7, some ⟨wo.heap.size, 0, none⟩, 1, [(t : Int)], 1, e0, 1, 2, sz, sl⟩]) (t + 1) P true) := GH.out.push HSHP.out (by simp) HNE.out HXS.out hq (by simp)
              clear hq
              go_wp2_with (at_builtin; refine app_nd rfl _ _ rfl w1.heap.size (.slice va ns.length vc) ns rfl J2.out.row ⟨wo.heap.size + 1 + 1, 0, none⟩ 1 ⟨7, some ⟨wo.heap.size, 0, none⟩, 1, [(t : Int)], 1, e0, 1, 2, sz, sl⟩ rfl HN.out hnl1 HBZ.out ?_; intro v4 w4 h4 g4 n4; obtain ⟨a4, c4, hv4⟩ := h4.shape; rw [List.length_append, List.length_singleton] at hv4; subst hv4; have JG := hide (J2.out.grown h4 g4 HI.out); have c5 : w4.cell? ⟨w1.heap.size + 1, 0, none⟩ = some (.slice va ns.length vc) := (by rw [JG.out.1.cellAt]; rfl); have f5 := JG.out.1.free 0)
              go_roundg go
              case rel => exact ⟨t + 1, P, true, _, _, rfl, rfl, by go_num, by omega, by omega, JG.out.2, HH, GB.out.trans ((HB2.out.mono GB.out.size).trans (J2.out.grownBelow g4 HBZ.out))⟩
              case measure => omega
            | false =>
              have HH : Hid (Hv (ns ++ [⟨7, some ⟨wo.heap.size, 0, none⟩, 1, [(t : Int)], 1, e0, 1, 2, sz, sl⟩]) (t + 1) P true) := GH.out.push HSHP.out (by simp) HNE.out HXS.out hq (by first | (simp; done) | (simp; omega))
              clear hq
              go_wp2_with (at_builtin; refine app_nd rfl _ _ rfl w1.heap.size (.slice va ns.length vc) ns rfl J2.out.row ⟨wo.heap.size + 1 + 1, 0, none⟩ 1 ⟨7, some ⟨wo.heap.size, 0, none⟩, 1, [(t : Int)], 1, e0, 1, 2, sz, sl⟩ rfl HN.out hnl1 HBZ.out ?_; intro v4 w4 h4 g4 n4; obtain ⟨a4, c4, hv4⟩ := h4.shape; rw [List.length_append, List.length_singleton] at hv4; subst hv4; have JG := hide (J2.out.grown h4 g4 HI.out); have c5 : w4.cell? ⟨w1.heap.size + 1, 0, none⟩ = some (.slice va ns.length vc) := (by rw [JG.out.1.cellAt]; rfl); have f5 := JG.out.1.free 0)
              go_roundg go
              case rel => exact ⟨t + 1, P, true, _, _, rfl, rfl, by go_num, by omega, by omega, JG.out.2, HH, GB.out.trans ((HB2.out.mono GB.out.size).trans (J2.out.grownBelow g4 HBZ.out))⟩
              case measure => omega
          · have hq : stepW ⟨7, some ⟨wo.heap.size, 0, none⟩, 1, [(t : Int)], 1, e0, 1, 2, sz, sl⟩ p = 65 := by rw [HSTEP.out]; omega
            cases hb with
            | true =>
              have HH : Hid (Hv (ns ++ [⟨7, some ⟨wo.heap.size, 0, none⟩, 1, [(t : Int)], 1, e0, 1, 2, sz, sl⟩]) (t + 1) 65 true) := GH.out.push HSHP.out (by simp) HNE.out HXS.out hq (by simp)
              clear hq
              go_wp2_with (at_builtin; refine app_nd rfl _ _ rfl w1.heap.size (.slice va ns.length vc) ns rfl J2.out.row ⟨wo.heap.size + 1 + 1, 0, none⟩ 1 ⟨7, some ⟨wo.heap.size, 0, none⟩, 1, [(t : Int)], 1, e0, 1, 2, sz, sl⟩ rfl HN.out hnl1 HBZ.out ?_; intro v4 w4 h4 g4 n4; obtain ⟨a4, c4, hv4⟩ := h4.shape; rw [List.length_append, List.length_singleton] at hv4; subst hv4; have JG := hide (J2.out.grown h4 g4 HI.out); have c5 : w4.cell? ⟨w1.heap.size + 1, 0, none⟩ = some (.slice va ns.length vc) := (by rw [JG.out.1.cellAt]; rfl); have f5 := JG.out.1.free 0)
              go_roundg go
              case rel => exact ⟨t + 1, 65, true, _, _, rfl, rfl, by go_num, by omega, by omega, JG.out.2, HH, GB.out.trans ((HB2.out.mono GB.out.size).trans (J2.out.grownBelow g4 HBZ.out))⟩
              case measure => omega
            | false =>
              have HH : Hid (Hv (ns ++ [⟨7, some ⟨wo.heap.size, 0, none⟩, 1, [(t : Int)], 1, e0, 1, 2, sz, sl⟩]) (t + 1) 65 true) := GH.out.push HSHP.out (by simp) HNE.out HXS.out hq (by first | (simp; done) | (simp; omega))
              clear hq
              go_wp2_with (at_builtin; refine app_nd rfl _ _ rfl w1.heap.size (.slice va ns.length vc) ns rfl J2.out.row ⟨wo.heap.size + 1 + 1, 0, none⟩ 1 ⟨7, some ⟨wo.heap.size, 0, none⟩, 1, [(t : Int)], 1, e0, 1, 2, sz, sl⟩ rfl HN.out hnl1 HBZ.out ?_; intro v4 w4 h4 g4 n4; obtain ⟨a4, c4, hv4⟩ := h4.shape; rw [List.length_append, List.length_singleton] at hv4; subst hv4; have JG := hide (J2.out.grown h4 g4 HI.out); have c5 : w4.cell? ⟨w1.heap.size + 1, 0, none⟩ = some (.slice va ns.length vc) := (by rw [JG.out.1.cellAt]; rfl); have f5 := JG.out.1.free 0)
              go_roundg go
              case rel => exact ⟨t + 1, 65, true, _, _, rfl, rfl, by go_num, by omega, by omega, JG.out.2, HH, GB.out.trans ((HB2.out.mono GB.out.size).trans (J2.out.grownBelow g4 HBZ.out))⟩
              case measure => omega
        · have r1 : (k : Int) % 3 = 2 := by omega
          have r2 : (k : Int).tmod 3 = 2 := by rw [Int.tmod_eq_emod_of_nonneg (by omega)]; omega
          have HSTEP : Hid (stepW ⟨6, some ⟨wo.heap.size, 0, none⟩, 1, [(t : Int)], 1, e0, 4, 0, 0, 0⟩ p = min p 65) := (show stepW ⟨6, some ⟨wo.heap.size, 0, none⟩, 1, [(t : Int)], 1, e0, 4, 0, 0, 0⟩ p = min p 65 by simp [stepW, mulN])
          have HSHP : Hid (Shp ⟨6, some ⟨wo.heap.size, 0, none⟩, 1, [(t : Int)], 1, e0, 4, 0, 0, 0⟩) := ⟨rfl, rfl, .inr (.inr (.inl ⟨rfl, rfl, rfl, rfl, rfl, rfl⟩))⟩
          have HNE : Hid ((⟨6, some ⟨wo.heap.size, 0, none⟩, 1, [(t : Int)], 1, e0, 4, 0, 0, 0⟩ : Nd).ins ≠ []) := (show ([(t : Int)] : List Int) ≠ [] by simp)
          have HXS : Hid (∀ x ∈ (⟨6, some ⟨wo.heap.size, 0, none⟩, 1, [(t : Int)], 1, e0, 4, 0, 0, 0⟩ : Nd).ins, x = (t : Int)) := fun x hx => by simpa using hx
          have hb2 : Below wo.heap.size wo (((wo.alloc (.cells (ic (t : Int)).toArray 3)).alloc (.cells (Nd.cs ⟨6, some ⟨wo.heap.size, 0, none⟩, 1, [(t : Int)], 1, e0, 4, 0, 0, 0⟩).toArray 49)).alloc (.cells (Nd.cs ⟨6, some ⟨wo.heap.size, 0, none⟩, 1, [(t : Int)], 1, e0, 4, 0, 0, 0⟩).toArray 49)) := (((Below.refl _ _).alloc (Nat.le_refl _) _).alloc (by simp) _).alloc (by simp; omega) _
          have J2 := hide (GJ.out.below hb2)
          have HI : Hid (OwnL 3 1 ic w1.heap.size (((wo.alloc (.cells (ic (t : Int)).toArray 3)).alloc (.cells (Nd.cs ⟨6, some ⟨wo.heap.size, 0, none⟩, 1, [(t : Int)], 1, e0, 4, 0, 0, 0⟩).toArray 49)).alloc (.cells (Nd.cs ⟨6, some ⟨wo.heap.size, 0, none⟩, 1, [(t : Int)], 1, e0, 4, 0, 0, 0⟩).toArray 49)) (.slice (some ⟨wo.heap.size, 0, none⟩) 1 1) [(t : Int)]) := OwnL.mk1 (ic_len _) GB.out.size (((BoxT.new 3 wo _).alloc _).alloc _)
          have HN : Hid (∀ (j : Nat) (u : Value), (Nd.cs ⟨6, some ⟨wo.heap.size, 0, none⟩, 1, [(t : Int)], 1, e0, 4, 0, 0, 0⟩)[j]? = some u → (((wo.alloc (.cells (ic (t : Int)).toArray 3)).alloc (.cells (Nd.cs ⟨6, some ⟨wo.heap.size, 0, none⟩, 1, [(t : Int)], 1, e0, 4, 0, 0, 0⟩).toArray 49)).alloc (.cells (Nd.cs ⟨6, some ⟨wo.heap.size, 0, none⟩, 1, [(t : Int)], 1, e0, 4, 0, 0, 0⟩).toArray 49)).cell? ((⟨wo.heap.size + 1 + 1, 0, none⟩ : Addr).add j) = some u) := fun j u hj => by
            rw [add_plain2, Nat.zero_add, (BoxT.new_at (t := 49) (w := (wo.alloc (.cells (ic (t : Int)).toArray 3)).alloc (.cells (Nd.cs ⟨6, some ⟨wo.heap.size, 0, none⟩, 1, [(t : Int)], 1, e0, 4, 0, 0, 0⟩).toArray 49)) (cs := (Nd.cs ⟨6, some ⟨wo.heap.size, 0, none⟩, 1, [(t : Int)], 1, e0, 4, 0, 0, 0⟩).toArray) (by simp)).cellAt]
            simpa using hj
          have HBZ : Hid (w1.heap.size ≤ (((wo.alloc (.cells (ic (t : Int)).toArray 3)).alloc (.cells (Nd.cs ⟨6, some ⟨wo.heap.size, 0, none⟩, 1, [(t : Int)], 1, e0, 4, 0, 0, 0⟩).toArray 49)).alloc (.cells (Nd.cs ⟨6, some ⟨wo.heap.size, 0, none⟩, 1, [(t : Int)], 1, e0, 4, 0, 0, 0⟩).toArray 49)).heap.size) := (show _ ≤ _ from Nat.le_trans GB.out.size hb2.size)
          have HB2 := hide hb2
          clear hb2
          unfold ic Nd.cs e0 at J2 HI HN HBZ HB2
          simp only at J2 HI HN HBZ HB2
          rcases (show (¬ (64 : Int) < (p : Int) ∧ ¬ (65 : Int) < (p : Int)) ∨ ((64 : Int) < (p : Int) ∧ ¬ (65 : Int) < (p : Int)) by omega) with ⟨hc1, hc2⟩ | ⟨hc1, hc2⟩
          · have hq : stepW ⟨6, some ⟨wo.heap.size, 0, none⟩, 1, [(t : Int)], 1, e0, 4, 0, 0, 0⟩ p = p := by rw [HSTEP.out]; omega
            cases hb with
            | true =>
              have HH : Hid (Hv (ns ++ [⟨6, some ⟨wo.heap.size, 0, none⟩, 1, [(t : Int)], 1, e0, 4, 0, 0, 0⟩]) (t + 1) p true) := GH.out.push HSHP.out (by simp) HNE.out HXS.out hq (by simp)
              clear hq
              go_wp2_with (at_builtin; refine app_nd rfl _ _ rfl w1.heap.size (.slice va ns.length vc) ns rfl J2.out.row ⟨wo.heap.size + 1 + 1, 0, none⟩ 1 ⟨6, some ⟨wo.heap.size, 0, none⟩, 1, [(t : Int)], 1, e0, 4, 0, 0, 0⟩ rfl HN.out hnl1 HBZ.out ?_; intro v4 w4 h4 g4 n4; obtain ⟨a4, c4, hv4⟩ := h4.shape; rw [List.length_append, List.length_singleton] at hv4; subst hv4; have JG := hide (J2.out.grown h4 g4 HI.out); have c5 : w4.cell? ⟨w1.heap.size + 1, 0, none⟩ = some (.slice va ns.length vc) := (by rw [JG.out.1.cellAt]; rfl); have f5 := JG.out.1.free 0)
              go_roundg go
              case rel => exact ⟨t + 1, p, true, _, _, rfl, rfl, by go_num, by omega, by omega, JG.out.2, HH, GB.out.trans ((HB2.out.mono GB.out.size).trans (J2.out.grownBelow g4 HBZ.out))⟩
              case measure => omega
            | false =>
              have HH : Hid (Hv (ns ++ [⟨6, some ⟨wo.heap.size, 0, none⟩, 1, [(t : Int)], 1, e0, 4, 0, 0, 0⟩]) (t + 1) p false) := GH.out.push HSHP.out (by simp) HNE.out HXS.out hq (by first | (simp; done) | (simp; omega))
              clear hq
              go_wp2_with (at_builtin; refine app_nd rfl _ _ rfl w1.heap.size (.slice va ns.length vc) ns rfl J2.out.row ⟨wo.heap.size + 1 + 1, 0, none⟩ 1 ⟨6, some ⟨wo.heap.size, 0, none⟩, 1, [(t : Int)], 1, e0, 4, 0, 0, 0⟩ rfl HN.out hnl1 HBZ.out ?_; intro v4 w4 h4 g4 n4; obtain ⟨a4, c4, hv4⟩ := h4.shape; rw [List.length_append, List.length_singleton] at hv4; subst hv4; have JG := hide (J2.out.grown h4 g4 HI.out); have c5 : w4.cell? ⟨w1.heap.size + 1, 0, none⟩ = some (.slice va ns.length vc) := (by rw [JG.out.1.cellAt]; rfl); have f5 := JG.out.1.free 0)
              go_roundg go
              case rel => exact ⟨t + 1, p, false, _, _, rfl, rfl, by go_num, by omega, by omega, JG.out.2, HH, GB.out.trans ((HB2.out.mono GB.out.size).trans (J2.out.grownBelow g4 HBZ.out))⟩
              case measure => omega
          · have hq : stepW ⟨6, some ⟨wo.heap.size, 0, none⟩, 1, [(t : Int)], 1, e0, 4, 0, 0, 0⟩ p = p := by rw [HSTEP.out]; omega
            cases hb with
            | true =>
              have HH : Hid (Hv (ns ++ [⟨6, some ⟨wo.heap.size, 0, none⟩, 1, [(t : Int)], 1, e0, 4, 0, 0, 0⟩]) (t + 1) p true) := GH.out.push HSHP.out (by simp) HNE.out HXS.out hq (by simp)
              clear hq
              go_wp2_with (at_builtin; refine app_nd rfl _ _ rfl w1.heap.size (.slice va ns.length vc) ns rfl J2.out.row ⟨wo.heap.size + 1 + 1, 0, none⟩ 1 ⟨6, some ⟨wo.heap.size, 0, none⟩, 1, [(t : Int)], 1, e0, 4, 0, 0, 0⟩ rfl HN.out hnl1 HBZ.out ?_; intro v4 w4 h4 g4 n4; obtain ⟨a4, c4, hv4⟩ := h4.shape; rw [List.length_append, List.length_singleton] at hv4; subst hv4; have JG := hide (J2.out.grown h4 g4 HI.out); have c5 : w4.cell? ⟨w1.heap.size + 1, 0, none⟩ = some (.slice va ns.length vc) := (by rw [JG.out.1.cellAt]; rfl); have f5 := JG.out.1.free 0)
              go_roundg go
              case rel => exact ⟨t + 1, p, true, _, _, rfl, rfl, by go_num, by omega, by omega, JG.out.2, HH, GB.out.trans ((HB2.out.mono GB.out.size).trans (J2.out.grownBelow g4 HBZ.out))⟩
              case measure => omega
            | false =>
              have HH : Hid (Hv (ns ++ [⟨6, some ⟨wo.heap.size, 0, none⟩, 1, [(t : Int)], 1, e0, 4, 0, 0, 0⟩]) (t + 1) p true) := GH.out.push HSHP.out (by simp) HNE.out HXS.out hq (by first | (simp; done) | (simp; omega))
              clear hq
              go_wp2_with (at_builtin; refine app_nd rfl _ _ rfl w1.heap.size (.slice va ns.length vc) ns rfl J2.out.row ⟨wo.heap.size + 1 + 1, 0, none⟩ 1 ⟨6, some ⟨wo.heap.size, 0, none⟩, 1, [(t : Int)], 1, e0, 4, 0, 0, 0⟩ rfl HN.out hnl1 HBZ.out ?_; intro v4 w4 h4 g4 n4; obtain ⟨a4, c4, hv4⟩ := h4.shape; rw [List.length_append, List.length_singleton] at hv4; subst hv4; have JG := hide (J2.out.grown h4 g4 HI.out); have c5 : w4.cell? ⟨w1.heap.size + 1, 0, none⟩ = some (.slice va ns.length vc) := (by rw [JG.out.1.cellAt]; rfl); have f5 := JG.out.1.free 0)
              go_roundg go
              case rel => exact ⟨t + 1, p, true, _, _, rfl, rfl, by go_num, by omega, by omega, JG.out.2, HH, GB.out.trans ((HB2.out.mono GB.out.size).trans (J2.out.grownBelow g4 HBZ.out))⟩
              case measure => omega
      · obtain rfl : t = xs.length := by omega
        have bt : ¬ (xs.length : Int) < (xs.length : Int) := by omega
        have hb2 : Below wo.heap.size wo ((wo.alloc (.cells (ic (xs.length : Int)).toArray 3)).alloc (.cells (Nd.cs ⟨8, some ⟨wo.heap.size, 0, none⟩, 1, [(xs.length : Int)], 1, e0, 0, 0, 0, 0⟩).toArray 49)) := ((Below.refl _ _).alloc (Nat.le_refl _) _).alloc (by simp) _
        have J2 := hide (GJ.out.below hb2)
        have HI : Hid (OwnL 3 1 ic w1.heap.size ((wo.alloc (.cells (ic (xs.length : Int)).toArray 3)).alloc (.cells (Nd.cs ⟨8, some ⟨wo.heap.size, 0, none⟩, 1, [(xs.length : Int)], 1, e0, 0, 0, 0, 0⟩).toArray 49)) (.slice (some ⟨wo.heap.size, 0, none⟩) 1 1) [(xs.length : Int)]) :=
          OwnL.mk1 (ic_len _) GB.out.size ((BoxT.new 3 wo _).alloc _)
        have HN : Hid (∀ (j : Nat) (u : Value), (Nd.cs ⟨8, some ⟨wo.heap.size, 0, none⟩, 1, [(xs.length : Int)], 1, e0, 0, 0, 0, 0⟩)[j]? = some u → ((wo.alloc (.cells (ic (xs.length : Int)).toArray 3)).alloc (.cells (Nd.cs ⟨8, some ⟨wo.heap.size, 0, none⟩, 1, [(xs.length : Int)], 1, e0, 0, 0, 0, 0⟩).toArray 49)).cell? ((⟨wo.heap.size + 1, 0, none⟩ : Addr).add j) = some u) := fun j u hj => by
          rw [add_plain2, Nat.zero_add, (BoxT.new_at (t := 49) (w := wo.alloc (.cells (ic (xs.length : Int)).toArray 3)) (by simp)).cellAt]
          simpa using hj
        have HBZ : Hid (w1.heap.size ≤ ((wo.alloc (.cells (ic (xs.length : Int)).toArray 3)).alloc (.cells (Nd.cs ⟨8, some ⟨wo.heap.size, 0, none⟩, 1, [(xs.length : Int)], 1, e0, 0, 0, 0, 0⟩).toArray 49)).heap.size) := (show _ ≤ _ from Nat.le_trans GB.out.size hb2.size)
        have HB2 := hide hb2
        clear hb2
        have HF := hide (GH.out.fin h9 (n := ⟨8, some ⟨wo.heap.size, 0, none⟩, 1, [(xs.length : Int)], 1, e0, 0, 0, 0, 0⟩) ⟨rfl, rfl, .inr (.inr (.inr (.inr ⟨rfl, rfl, rfl, rfl, rfl, rfl⟩)))⟩ rfl rfl)
        unfold ic Nd.cs e0 at J2 HI HN HBZ HB2
        simp only at J2 HI HN HBZ HB2
        go_wp2_with (at_builtin; refine app_nd rfl _ _ rfl w1.heap.size (.slice va ns.length vc) ns rfl J2.out.row ⟨wo.heap.size + 1, 0, none⟩ 1 ⟨8, some ⟨wo.heap.size, 0, none⟩, 1, [(xs.length : Int)], 1, e0, 0, 0, 0, 0⟩ rfl HN.out hnl1 HBZ.out ?_; intro v4 w4 h4 g4 n4; obtain ⟨a4, c4, hv4⟩ := h4.shape; rw [List.length_append, List.length_singleton] at hv4; subst hv4; have JG := hide (J2.out.grown h4 g4 HI.out); have c5 : w4.cell? ⟨w1.heap.size + 1, 0, none⟩ = some (.slice va ns.length vc) := (by rw [JG.out.1.cellAt]; rfl); have f5 := JG.out.1.free 0)
        refine step_any ?_
        intro w5 hw5
        have J5 : Hid (JB w1.heap.size w5 (w1.heap.size + 1) (.slice a4 (ns.length + 1) c4) (ns ++ [⟨8, some ⟨wo.heap.size, 0, none⟩, 1, [(xs.length : Int)], 1, e0, 0, 0, 0, 0⟩])) := by rw [hw5]; exact JG.out.2
        have B5 : Hid (Below w1.heap.size w1 w5) := by rw [hw5]; exact GB.out.trans ((HB2.out.mono GB.out.size).trans (J2.out.grownBelow g4 HBZ.out))
        obtain ⟨ks, hks⟩ : ∃ ks, ns ++ [⟨8, some ⟨wo.heap.size, 0, none⟩, 1, [(xs.length : Int)], 1, e0, 0, 0, 0, 0⟩] = ks := ⟨_, rfl⟩
        obtain ⟨L, hL⟩ : ∃ L, ns.length + 1 = L := ⟨_, rfl⟩
        have HKL : Hid (ks.length = L) := (show ks.length = L by rw [← hks, List.length_append, List.length_singleton]; exact hL)
        have hLx : L = xs.length + 2 := by rw [← hL, HNL.out]
        have hL12 : L ≤ 12 := by omega
        rw [hks] at J5 HF
        rw [hL] at J5 ⊢
        obtain ⟨i1, hi1⟩ : ∃ i1, xs.length + 1 = i1 := ⟨_, rfl⟩
        rw [hi1] at HF
        have hLi : (L : Int) - 1 = (i1 : Int) := by omega
        have hLi2 : (i1 : Int) < (L : Int) := by omega
        clear hks hw5 JG J2 c5 f5 h4 g4 n4 HN HI HBZ HB2 GJ GH GB cK fK hL hi1 hLx
        obtain ⟨hrow, hew, hej, hlast, hnoE⟩ := HF.out
        have HI5 : Hid (∀ x ∈ ks, x.ins.length ≤ 1000) := fun x hx => by
          have := hrow.shp x hx
          unfold Shp at this
          obtain ⟨-, -, this⟩ := this
          omega
        have HROW := hide hrow
        have HEW := hide hew
        have HEJ := hide hej
        have HLAST := hide hlast
        have HNE : Hid (∀ w, ExOk w ks) := fun w => ExOk.noE hnoE
        clear hrow hew hej hlast hnoE HF
        have hjob := J5.out.job (by rw [HKL.out]; omega) HI5.out
        refine (Weights_any hjob (HNE.out _)).mono ?_
        rintro e w6 ⟨u, rfl, hw, b6⟩
        obtain ⟨G, rfl, hG, hbx⟩ := (show ∃ G, u = .slice (some ⟨G, 0, none⟩) _ _ ∧ _ ∧ _ from hw.elim (fun h => absurd HEW.out h.1) (fun h => h.2))
        rw [HKL.out]
        have J6 := hide (J5.out.below b6)
        have B6 := hide (B5.out.trans (b6.mono B5.out.size))
        have G6 := hide hbx
        obtain ⟨c6, -⟩ := J6.out.cell
        clear b6 J5 B5 hjob hw hG hbx
        go_wp2_with fail
        have hjob := J6.out.job (by rw [HKL.out]; omega) HI5.out
        refine (Check_any hjob (HNE.out _)).mono ?_
        rintro e w7 ⟨rfl, b7⟩
        rw [HEJ.out]
        have J7 := hide (J6.out.below b7)
        have B7 := hide (B6.out.trans (b7.mono B6.out.size))
        have G7 := hide (G6.out.below b7)
        obtain ⟨c7, -⟩ := J7.out.cell
        have cl : w7.cell? ⟨G, i1, none⟩ = some (.int .i64 (p : Int)) := by rw [G7.out.cellAt]; simp [HLAST.out]
        clear b7 J6 B6 hjob c6 G6
        have HRW := hide (rweights_any HROW.out (J7.out.job (by rw [HKL.out]; omega) HI5.out))
        rw [HKL.out] at HRW
        cases hb with
        | true =>
          rw [if_pos rfl]
          go_wp2_with (go_at_call 16; refine HRW.out.mono ?_; rintro e w8 ⟨G', rfl, g8, b8⟩; have G8 := hide g8; have G9 := hide (G7.out.below b8); have B8 := hide (B7.out.trans (b8.mono B7.out.size)); clear b8 g8)
          have hwl : (wts ks).length = L := by rw [wts_len, HKL.out]
          have e1 := BoxT.lsegN (c := L) G9.out (by rw [hwl]; omega)
          have e2 := BoxT.lsegN (c := L) G8.out (by rw [hwl]; omega)
          rw [hwl] at e1 e2
          refine (Ints_any e1 e2).mono ?_
          rintro e w9 ⟨rfl, b9⟩
          clear e1 e2 hwl
          go_wp2_with fail
          go_ret
          exact ⟨rfl, B1.out.trans ((B8.out.trans (b9.mono B8.out.size)).mono B1.out.size)⟩
        | false =>
          rw [if_neg (by decide)]
          go_wp2_with (go_at_call 16; refine HRW.out.mono ?_; rintro e w8 ⟨G', rfl, g8, b8⟩; have G8 := hide g8; have G9 := hide (G7.out.below b8); have B8 := hide (B7.out.trans (b8.mono B7.out.size)); clear b8 g8)
          have hwl : (wts ks).length = L := by rw [wts_len, HKL.out]
          have e1 := BoxT.lsegN (c := L) G9.out (by rw [hwl]; omega)
          have e2 := BoxT.lsegN (c := L) G8.out (by rw [hwl]; omega)
          rw [hwl] at e1 e2
          refine (Ints_any e1 e2).mono ?_
          rintro e w9 ⟨rfl, b9⟩
          clear e1 e2 hwl
          go_wp2_with fail
          go_ret
          exact ⟨rfl, B1.out.trans ((B8.out.trans (b9.mono B8.out.size)).mono B1.out.size)⟩
  · have h9' : ¬ (xs.length : Int) ≤ 9 := by omega
    go_enter Try.func7, Try.ntmps7
    go_wp2_with (go_at_call 8; refine HK.out.mono ?_; rintro e w1 ⟨rfl, b1⟩; have B1 := hide b1; clear b1 HK)
    go_ret
    exact ⟨rfl, B1.out⟩
end Go.Proofs.Ytecaghjddoajmaa
