/-
  PlanSpreads, walked.
-/
import Derived.Test.YtfiafbfbiidnlaaPLawG
namespace Go.Proofs.Ytfiafbfbiidnlaa
open Go.RowKit

theorem tmod_emod {k n : Int} (hn : 0 < n) : (if k.tmod n < 0 then k.tmod n + n else k.tmod n) = k % n := by
  have h1 : 0 ≤ k % n := Int.emod_nonneg _ (by omega)
  have h2 : k % n < n := Int.emod_lt_of_pos _ hn
  have h3 := Int.emod_add_mul_ediv k n
  have h4 := Int.tmod_add_mul_tdiv k n
  rw [Int.tmod_eq_emod]
  have hn' : (n.natAbs : Int) = n := by omega
  split <;> split <;> omega
set_option maxHeartbeats 1000000 in
set_option maxRecDepth 100000 in
theorem Place_any (w : World) (k n : Int) (hn : 0 < n) (hn2 : n ≤ 1000000) : Calls Try.prog 26 #[.int .i64 k, .int .i64 n] w fun e w' => e = .returned (.int .i64 (k % n)) ∧ w = w' := by
  have hz : (n == 0) = false := by simp; omega
  have hz' : n ≠ 0 := by omega
  have hm1 : -n < k.tmod n := by
    have h5 := Int.lt_tmod_of_pos k hn
    omega
  have hm2 : k.tmod n < n := Int.tmod_lt_of_pos k hn
  have hw0 : IntKind.i64.wrap (k.tmod n) = k.tmod n := by rw [IntKind.wrap_i64]; omega
  have hw1 : wrap64 (k.tmod n) = k.tmod n := by unfold wrap64; omega
  have hw2 : wrap64 (k.tmod n + n) = k.tmod n + n := by unfold wrap64; omega
  have he := tmod_emod (k := k) hn
  by_cases h0 : k.tmod n < 0
  · rw [if_pos h0] at he
    go_enter Try.func26, Try.ntmps26
    go_wp2
    all_goals go_ret
    all_goals exact ⟨rfl, rfl⟩
  · rw [if_neg h0] at he
    go_enter Try.func26, Try.ntmps26
    go_wp2
    all_goals go_ret
    all_goals exact ⟨rfl, rfl⟩

theorem and_low (a : Int) : 0 ≤ bits .and .i64 a 65535 ∧ bits .and .i64 a 65535 ≤ 65535 := by
  unfold bits
  have h : (BitVec.ofInt IntKind.i64.bits a &&& BitVec.ofInt IntKind.i64.bits 65535).toNat ≤ 65535 := by
    rw [BitVec.toNat_and]
    exact Nat.and_le_right
  simp only
  generalize (BitVec.ofInt IntKind.i64.bits a &&& BitVec.ofInt IntKind.i64.bits 65535).toNat = n at *
  rw [IntKind.wrap_i64]
  omega
/-- Of five numbers in a row one falls into any quarter. -/
theorem cover (a L : Nat) (ha : a < 18446744073709551616) (hL : L + 4611686018427387904 ≤ 18446744073709551616) :
    ∃ i, i < 5 ∧ L ≤ (a + i * 11400714819323198485) % 18446744073709551616 ∧ (a + i * 11400714819323198485) % 18446744073709551616 < L + 4611686018427387904 := by
  obtain ⟨b, hb⟩ : ∃ b, (a ≤ L ∧ b = L - a) ∨ (L < a ∧ b = L + 18446744073709551616 - a) := by
    by_cases h : a ≤ L
    · exact ⟨_, .inl ⟨h, rfl⟩⟩
    · exact ⟨_, .inr ⟨by omega, rfl⟩⟩
  by_cases h2 : b ≤ 4354685564936845354
  · rcases hb with hb | hb <;> exact ⟨2, by omega, by omega, by omega⟩
  by_cases h4 : b ≤ 8709371129873690708
  · rcases hb with hb | hb <;> exact ⟨4, by omega, by omega, by omega⟩
  by_cases h1 : b ≤ 11400714819323198485
  · rcases hb with hb | hb <;> exact ⟨1, by omega, by omega, by omega⟩
  by_cases h3 : b ≤ 15755400384260043839
  · rcases hb with hb | hb <;> exact ⟨3, by omega, by omega, by omega⟩
  · rcases hb with hb | hb <;> exact ⟨0, by omega, by omega, by omega⟩
theorem grp_nat (n : Nat) (hn : n < 18446744073709551616) : grp (n : Int) = n * 11400714819323198485 % 18446744073709551616 / 1152921504606846976 := by
  unfold grp
  rw [show ((n : Int) % 18446744073709551616).toNat = n by omega]
theorem grp_cover (s g : Nat) (hs : s ≤ 65535) (hg : g ≤ 12) : ∃ i, i < 5 ∧ g ≤ grp ((s + i : Nat) : Int) ∧ grp ((s + i : Nat) : Int) < g + 4 := by
  obtain ⟨i, hi, h1, h2⟩ := cover (s * 11400714819323198485 % 18446744073709551616) (g * 1152921504606846976) (by omega) (by omega)
  refine ⟨i, hi, ?_⟩
  rw [grp_nat (s + i) (by omega)]
  have e : (s * 11400714819323198485 % 18446744073709551616 + i * 11400714819323198485) % 18446744073709551616 = (s + i) * 11400714819323198485 % 18446744073709551616 := by
    rw [Nat.add_mul, Nat.mod_add_mod]
  rw [e] at h1 h2
  obtain ⟨q, hq⟩ : ∃ q, (s + i) * 11400714819323198485 % 18446744073709551616 = q := ⟨_, rfl⟩
  rw [hq] at h1 h2 ⊢
  clear hq e
  omega
/-- Where the groups of a part begin. -/
def beg (m q : Nat) : Nat := if m = 0 then 0 else if m = 1 then 8 * q else if m = 2 then (if q = 0 then 0 else if q = 1 then 6 else 11) else 4 * q
theorem beg_all : (List.range 4).all (fun m => (List.range (m + 1)).all fun q => decide (beg m q ≤ 12) && (List.range 4).all fun k => prt ((beg m q + k : Nat) : Int) (1 + (m : Int)) == (q : Int)) = true := by decide +kernel
theorem spread (s m q : Nat) (hs : s ≤ 65535) (hm : m < 4) (hq : q < m + 1) : ∃ i, i < 5 ∧ prt (grp ((s + i : Nat) : Int)) (1 + (m : Int)) = (q : Int) := by
  have h := List.all_eq_true.1 (List.all_eq_true.1 beg_all m (List.mem_range.2 hm)) q (List.mem_range.2 hq)
  rw [Bool.and_eq_true] at h
  obtain ⟨i, hi, h1, h2⟩ := grp_cover s (beg m q) hs (by simpa using h.1)
  refine ⟨i, hi, ?_⟩
  have h3 := List.all_eq_true.1 h.2 (grp ((s + i : Nat) : Int) - beg m q) (List.mem_range.2 (by omega))
  rw [show beg m q + (grp ((s + i : Nat) : Int) - beg m q) = grp ((s + i : Nat) : Int) by omega] at h3
  simpa using h3
theorem prt_all : (List.range 4).all (fun m => (List.range 16).all fun g => decide (0 ≤ prt (g : Int) (1 + (m : Int)) ∧ prt (g : Int) (1 + (m : Int)) < 1 + (m : Int))) = true := by decide +kernel
theorem prt_nat {m g : Nat} (hm : m < 4) (hg : g < 16) : ∃ p : Nat, prt (g : Int) (1 + (m : Int)) = (p : Int) ∧ p < m + 1 := by
  have h := List.all_eq_true.1 (List.all_eq_true.1 prt_all m (List.mem_range.2 hm)) g (List.mem_range.2 hg)
  have h2 : 0 ≤ prt (g : Int) (1 + (m : Int)) ∧ prt (g : Int) (1 + (m : Int)) < 1 + (m : Int) := by simpa using h
  exact ⟨(prt (g : Int) (1 + (m : Int))).toNat, by omega, by omega⟩
theorem getD_set {l : List Nat} {i j x : Nat} (hi : i < l.length) : (l.set i x).getD j 0 = if i = j then x else l.getD j 0 := by
  simp only [List.getD_eq_getElem?_getD, List.getElem?_set]
  split
  · first | rfl | (rw [if_pos hi]; rfl)
  · rfl
def iN (x : Nat) : Value := .int .i64 (x : Int)
theorem iN_at {w : World} {G : Nat} {cs : List Nat} (h : BoxT 3 w G (cs.map iN).toArray) {i x : Nat} (hx : cs[i]? = some x) : w.cell? ⟨G, i, none⟩ = some (.int .i64 (x : Int)) := by
  rw [h.cellAt]; simp [hx, iN]
theorem mem_set_le {l : List Nat} {i x B : Nat} (h : ∀ y ∈ l, y ≤ B) (hx : x ≤ B) : ∀ y ∈ l.set i x, y ≤ B := by
  intro y hy
  rcases List.mem_or_eq_of_mem_set hy with h1 | h1
  · exact h y h1
  · omega

set_option maxHeartbeats 4000000 in
set_option maxRecDepth 100000 in
theorem PlanSpreads_walk (fr par0 : Int) (w : World) : Calls Try.prog 7 #[.int .i64 fr, .int .i64 par0] w fun e w' => e = .returned (.bool true) ∧ Below w.heap.size w w' := by
  have HK := hide (known_any w)
  have HPL := hide (Place_any · par0 4 (by omega) (by omega))
  obtain ⟨m, hm, hm4⟩ : ∃ m : Nat, par0 % 4 = (m : Int) ∧ m < 4 := ⟨(par0 % 4).toNat, by omega, by omega⟩
  rw [hm] at HPL
  obtain ⟨s, hs, hs2⟩ : ∃ s : Nat, bits BinOp.and IntKind.i64 fr 65535 = (s : Int) ∧ s ≤ 65535 := ⟨(bits BinOp.and IntKind.i64 fr 65535).toNat, by have := and_low fr; omega, by have := and_low fr; omega⟩
  have HSP : Hid (∀ q < m + 1, ∃ i, i < 5 ∧ prt (grp ((s + i : Nat) : Int)) (1 + (m : Int)) = (q : Int)) := fun q hq => spread s m q hs2 hm4 hq
  have mk16 : ∀ W : World, (Instr.makeSlice 34 (.int .i64 16) (.int .i64 16)).run Try.prog W = .ok (.slice (some ⟨W.heap.size, 0, none⟩) 16 16) (W.alloc (.cells ((List.replicate 16 0).map iN).toArray 3)) := fun W => mkN W 16 (by omega)
  have mkm : ∀ W : World, (Instr.makeSlice 34 (.int .i64 (1 + (m : Int))) (.int .i64 (1 + (m : Int)))).run Try.prog W = .ok (.slice (some ⟨W.heap.size, 0, none⟩) (m + 1) (m + 1)) (W.alloc (.cells ((List.replicate (m + 1) 0).map iN).toArray 3)) := fun W => by
    have := mkN W (m + 1) (by omega)
    rwa [show ((m + 1 : Nat) : Int) = 1 + (m : Int) by omega] at this
  obtain ⟨gs, hgs⟩ : ∃ gs : Nat → Nat, ∀ i, grp ((s + i : Nat) : Int) = gs i := ⟨_, fun _ => rfl⟩
  have HGL : Hid (∀ i, gs i < 16) := fun i => by rw [← hgs]; exact grp_lt _
  have HGC : Hid (∀ (w : World) (i : Nat), Calls Try.prog 22 #[.int .i64 ((s : Int) + (i : Int))] w fun e w' => e = .returned (.int .i64 (gs i : Int)) ∧ w = w') := fun w i => by
    have := Group_any w ((s + i : Nat) : Int)
    rw [hgs] at this
    simpa using this
  have HSQ : Hid (∀ q < m + 1, ∃ i, i < 5 ∧ prt (gs i : Int) (1 + (m : Int)) = (q : Int)) := fun q hq => by
    obtain ⟨i, h1, h2⟩ := HSP.out q hq
    exact ⟨i, h1, by rw [← hgs]; exact h2⟩
  have HPN : Hid (∀ g : Nat, g < 16 → ∃ p : Nat, prt (g : Int) (1 + (m : Int)) = (p : Int) ∧ p < m + 1) := fun g hg => prt_nat hm4 hg
  clear HSP hgs hm
  as_aux_lemma =>
  go_enter Try.func7, Try.ntmps7
  go_wp2_with (first
    | (go_at_call 8; refine HK.out.mono ?_; rintro e w1 ⟨rfl, b1⟩; have B1 := hide b1; clear b1)
    | (go_at_call 26; refine (HPL.out _).mono ?_; rintro e w2 ⟨rfl, rfl⟩))
  go_loopg [6] 201 (fun gh iv wr => ∃ (t : Nat) (cs : List Nat), iv = .int .i64 (t : Int) ∧ t ≤ 200 ∧ 201 ≤ gh + t ∧ Hid (cs.length = 16) ∧ Hid (∀ x ∈ cs, x ≤ t) ∧ Hid (∀ i < t, 0 < cs.getD (gs i) 0) ∧ Hid (BoxT 3 wr w1.heap.size (cs.map iN).toArray) ∧ Hid (Below w.heap.size w wr))
  case atStart => exact ⟨0, List.replicate 16 0, rfl, by omega, by omega, (show _ = _ by simp), (fun x hx => by simp at hx; omega), (fun i hi => by omega), BoxT.new 3 w1 _, B1.out.alloc B1.out.size _⟩
  case round =>
    obtain ⟨t, cs, rfl, ht, hgt, GL, GM, GS, GX, GB⟩ := hrel
    obtain ⟨go, rfl⟩ : ∃ go, gk = go + 1 := ⟨gk - 1, by omega⟩
    by_cases hlt : t < 200
    · have bt : (t : Int) < 200 := by omega
      obtain ⟨g, hg⟩ : ∃ g, gs t = g := ⟨_, rfl⟩
      have hg16 : g < 16 := by rw [← hg]; exact HGL.out t
      have HC := hide (fun w => HGC.out w t)
      rw [hg] at HC
      obtain ⟨x, hx⟩ := get_of_lt (l := cs) (i := g) (by rw [GL.out]; exact hg16)
      have hxt := GM.out x (List.mem_of_getElem? hx)
      have c0 := iN_at GX.out hx
      have f0 := GX.out.free g
      have bg : (g : Int) < 16 := by omega
      have bg0 : ¬ (g : Int) < 0 := by omega
      have HG := hide hg
      clear hx hg
      go_wp2_with (go_at_call 22; refine (HC.out _).mono ?_; rintro e w2 ⟨rfl, rfl⟩)
      go_roundg go
      case rel =>
        have hl : g < cs.length := by rw [GL.out]; exact hg16
        refine ⟨t + 1, cs.set g (x + 1), by go_num, by omega, by omega, (show _ = _ by rw [List.length_set]; exact GL.out), mem_set_le (fun y hy => Nat.le_succ_of_le (GM.out y hy)) (by omega), (fun i hi => ?_), ?_, GB.out.setCell (p := ⟨w1.heap.size, g, none⟩) B1.out.size _⟩
        · rw [getD_set hl]
          split
          · omega
          · rename_i hne
            refine GS.out i ?_
            rcases Nat.lt_succ_iff_lt_or_eq.1 hi with h | h
            · exact h
            · subst h; exact absurd HG.out.symm hne
        · have := GX.out.set g (iN (x + 1))
          rw [map_set iN] at this
          exact this
      case measure => omega
    · have bt : ¬ (t : Int) < 200 := by omega
      have hte : t = 200 := by omega
      have GM2 : Hid (∀ x ∈ cs, x ≤ 200) := fun x hx => by have := GM.out x hx; omega
      have GS2 : Hid (∀ i < 5, 0 < cs.getD (gs i) 0) := fun i hi => GS.out i (by omega)
      obtain ⟨w2, hw2⟩ : ∃ w2, w2 = wr := ⟨_, rfl⟩
      subst hw2
      clear hte
      go_wp2_with fail
      go_loopg [8] 17 (fun gh iv wr => ∃ (t : Nat) (ps : List Nat), iv = .int .i64 (t : Int) ∧ t ≤ 16 ∧ 17 ≤ gh + t ∧ Hid (ps.length = m + 1) ∧ Hid (∀ x ∈ ps, x ≤ 200 * t) ∧ Hid (∀ g < t, 0 < cs.getD g 0 → ∀ p : Nat, prt (g : Int) (1 + (m : Int)) = (p : Int) → 0 < ps.getD p 0) ∧ Hid (BoxT 3 wr w1.heap.size (cs.map iN).toArray) ∧ Hid (BoxT 3 wr w2.heap.size (ps.map iN).toArray) ∧ Hid (Below w.heap.size w wr))
      case atStart => exact ⟨0, List.replicate (m + 1) 0, rfl, by omega, by omega, (show _ = _ by simp), (fun x hx => by simp at hx; omega), (fun g hg => by omega), GX.out.alloc _, (show BoxT 3 _ _ _ by have := BoxT.new 3 w2 (Array.replicate (m + 1) (iN 0)); simpa using this), GB.out.alloc GB.out.size _⟩
      case round =>
        have hw12 : w1.heap.size < w2.heap.size := GX.out.lt
        clear GM GS GX ht hgt hlt
        obtain ⟨t, ps, rfl, ht, hgt, PL, PM, PS, PC, PX, PB⟩ := hrel
        obtain ⟨gi, rfl⟩ : ∃ go, gk = go + 1 := ⟨gk - 1, by omega⟩
        by_cases hlt : t < 16
        · have bt : (t : Int) < 16 := by omega
          have bt2 : ¬ (16 : Int) ≤ (t : Int) := by omega
          obtain ⟨pp, hpp, hpm⟩ := HPN.out t hlt
          obtain ⟨x, hx⟩ := get_of_lt (l := ps) (i := pp) (by rw [PL.out]; exact hpm)
          obtain ⟨y, hy⟩ := get_of_lt (l := cs) (i := t) (by rw [GL.out]; exact hlt)
          have hxt := PM.out x (List.mem_of_getElem? hx)
          have hyt := GM2.out y (List.mem_of_getElem? hy)
          have bp : (pp : Int) < (m : Int) + 1 := by omega
          have bp0 : ¬ (pp : Int) < 0 := by omega
          have HP := hide (fun w' h => Part_all (t : Int) (1 + (m : Int)) wr w' h)
          rw [hpp] at HP
          have HPP := hide hpp
          have HX := hide hx
          have HY := hide hy
          have KC : Hid (∀ w' : World, Below wr.heap.size wr w' → w'.cell? ⟨w2.heap.size, pp, none⟩ = some (.int .i64 (x : Int)) ∧ w'.cell? ⟨w1.heap.size, t, none⟩ = some (.int .i64 (y : Int)) ∧ w'.frozen? ⟨w2.heap.size, pp, none⟩ = false) := fun w' h => ⟨iN_at (PX.out.below h) hx, iN_at (PC.out.below h) hy, (PX.out.below h).free pp⟩
          clear hx hy hpp
          go_wp2_with fail
          have B1 : Hid (Below (wr).heap.size (wr) (wr).drew) := (Below.refl _ _).drew
          refine wp_region_M (S := fun w' => w'.cell? ⟨w2.heap.size, pp, none⟩ = some (.int .i64 (x : Int)) ∧ w'.cell? ⟨w1.heap.size, t, none⟩ = some (.int .i64 (y : Int)) ∧ w'.frozen? ⟨w2.heap.size, pp, none⟩ = false) (late := [12]) (by kernel_rfl) (KC.out _ B1.out) (fun hHeld => ?_)
          (try simp only [List.size_toArray, List.length_cons, List.length_nil, Nat.zero_add, Nat.reduceAdd, Array.replicate, List.replicate])
          refine wpAnyM_take (i := 0) (oi := ⟨_, _, _, _, _, _⟩) (v := ?_) rfl (by kernel_rfl) (by kernel_rfl) (by kernel_rfl) (by kernel_rfl) (fun _ _ _ h => h) (Or.inl ⟨by rfl, ?_⟩) hHeld ?_
          rotate_left
          · (intro w' hSw; (try dsimp only at hSw); go_simp; try (with_reducible rfl))
          (try simp only [Act.put, List.setIfInBounds_toArray, List.set_cons_zero, List.set_cons_succ])
          refine wpAnyM_take (i := 1) (oi := ⟨_, _, _, _, _, _⟩) (v := ?_) rfl (by kernel_rfl) (by kernel_rfl) (by kernel_rfl) (by kernel_rfl) (fun _ _ _ h => h) (Or.inl ⟨by rfl, ?_⟩) hHeld ?_
          rotate_left
          · (intro w' hSw; (try dsimp only at hSw); go_simp; try (with_reducible rfl))
          (try simp only [Act.put, List.setIfInBounds_toArray, List.set_cons_zero, List.set_cons_succ])
          refine wpAnyM_take (i := 2) (oi := ⟨_, _, _, _, _, _⟩) (v := ?_) rfl (by kernel_rfl) (by kernel_rfl) (by kernel_rfl) (by kernel_rfl) (fun _ _ _ h => h) (Or.inl ⟨by rfl, ?_⟩) hHeld ?_
          rotate_left
          · (intro w' hSw; (try dsimp only at hSw); go_simp; try (with_reducible rfl))
          (try simp only [Act.put, List.setIfInBounds_toArray, List.set_cons_zero, List.set_cons_succ])
          refine wpAnyM_take (i := 6) (oi := ⟨_, _, _, _, _, _⟩) (v := ?_) rfl (by kernel_rfl) (by kernel_rfl) (by kernel_rfl) (by kernel_rfl) (fun _ _ _ h => h) (Or.inl ⟨by rfl, ?_⟩) hHeld ?_
          rotate_left
          · (intro w' hSw; (try dsimp only at hSw); go_simp; try (with_reducible rfl))
          (try simp only [Act.put, List.setIfInBounds_toArray, List.set_cons_zero, List.set_cons_succ])
          refine wpAnyM_take (i := 7) (oi := ⟨_, _, _, _, _, _⟩) (v := ?_) rfl (by kernel_rfl) (by kernel_rfl) (by kernel_rfl) (by kernel_rfl) (fun _ _ _ h => h) (Or.inl ⟨by rfl, ?_⟩) hHeld ?_
          rotate_left
          · (intro w' hSw; (try dsimp only at hSw); go_simp; try (with_reducible rfl))
          (try simp only [Act.put, List.setIfInBounds_toArray, List.set_cons_zero, List.set_cons_succ])
          refine wpAnyM_take (i := 8) (oi := ⟨_, _, _, _, _, _⟩) (v := ?_) rfl (by kernel_rfl) (by kernel_rfl) (by kernel_rfl) (by kernel_rfl) (fun _ _ _ h => h) (Or.inl ⟨by rfl, ?_⟩) hHeld ?_
          rotate_left
          · (intro w' hSw; (try dsimp only at hSw); go_simp; try (with_reducible rfl))
          (try simp only [Act.put, List.setIfInBounds_toArray, List.set_cons_zero, List.set_cons_succ])
          refine wpAnyM_take (i := 9) (oi := ⟨_, _, _, _, _, _⟩) (v := ?_) rfl (by kernel_rfl) (by kernel_rfl) (by kernel_rfl) (by kernel_rfl) (fun _ _ _ h => h) (Or.inl ⟨by rfl, ?_⟩) hHeld ?_
          rotate_left
          · (intro w' hSw; (try dsimp only at hSw); go_simp; try (with_reducible rfl))
          (try simp only [Act.put, List.setIfInBounds_toArray, List.set_cons_zero, List.set_cons_succ])
          refine wpAnyM_one (i := 3) (o := ⟨_, _, _, _, _, _⟩) (by kernel_rfl) rfl (fun K hK => ?_)
          go_simp
          go_at_call 24
          refine (HP.out _ B1.out).mono ?_
          rintro e w4 ⟨rfl, hb⟩
          have B2 := hide hb
          refine hK.out _ _ (KC.out _ hb) (fun hHeld => ?_)
          clear hK K hb
          (try simp only [List.setIfInBounds_toArray, List.set_cons_zero, List.set_cons_succ])
          refine wpAnyM_take (i := 4) (oi := ⟨_, _, _, _, _, _⟩) (v := ?_) rfl (by kernel_rfl) (by kernel_rfl) (by kernel_rfl) (by kernel_rfl) (fun _ _ _ h => h) (Or.inl ⟨by rfl, ?_⟩) hHeld ?_
          rotate_left
          · (intro w' hSw; (try dsimp only at hSw); go_simp; try (with_reducible rfl))
          (try simp only [Act.put, List.setIfInBounds_toArray, List.set_cons_zero, List.set_cons_succ])
          refine wpAnyM_take (i := 5) (oi := ⟨_, _, _, _, _, _⟩) (v := ?_) rfl (by kernel_rfl) (by kernel_rfl) (by kernel_rfl) (by kernel_rfl) (fun _ _ _ h => h) (Or.inl ⟨by rfl, ?_⟩) hHeld ?_
          rotate_left
          · (intro w' hSw; (try dsimp only at hSw); go_simp; try (with_reducible rfl))
          (try simp only [Act.put, List.setIfInBounds_toArray, List.set_cons_zero, List.set_cons_succ])
          refine wpAnyM_take (i := 10) (oi := ⟨_, _, _, _, _, _⟩) (v := ?_) rfl (by kernel_rfl) (by kernel_rfl) (by kernel_rfl) (by kernel_rfl) (fun _ _ _ h => h) (Or.inl ⟨by rfl, ?_⟩) hHeld ?_
          rotate_left
          · (intro w' hSw; (try dsimp only at hSw); go_simp; try (with_reducible rfl))
          (try simp only [Act.put, List.setIfInBounds_toArray, List.set_cons_zero, List.set_cons_succ])
          refine wpAnyM_take (i := 11) (oi := ⟨_, _, _, _, _, _⟩) (v := ?_) rfl (by kernel_rfl) (by kernel_rfl) (by kernel_rfl) (by kernel_rfl) (fun _ _ _ h => h) (Or.inl ⟨by rfl, ?_⟩) hHeld ?_
          rotate_left
          · (intro w' hSw; (try dsimp only at hSw); go_simp; try (with_reducible rfl))
          (try simp only [Act.put, List.setIfInBounds_toArray, List.set_cons_zero, List.set_cons_succ])
          refine wpAnyM_last (i := 12) (o := ⟨_, _, _, _, _, _⟩) (by kernel_rfl) (by rfl) rfl (fun K hK => ?_)
          obtain ⟨hq1, hq2, hq3⟩ := hHeld
          go_simp
          refine hK.out _ _ ?_
          clear hK K
          (try simp only [List.setIfInBounds_toArray, List.set_cons_zero, List.set_cons_succ])
          refine wpAnyM_done (by kernel_rfl) ?_ _
          go_wp2_with fail
          go_roundg gi
          case rel =>
            have hl : pp < ps.length := by rw [PL.out]; exact hpm
            have hne : w1.heap.size ≠ w2.heap.size := by omega
            refine ⟨t + 1, ps.set pp (x + y), by go_num, by omega, by omega, (show _ = _ by rw [List.length_set]; exact PL.out), mem_set_le (fun z hz => by have := PM.out z hz; omega) (by omega), (fun g hg h1 p h2 => ?_), (PC.out.below B2.out).other _ _ hne, ?_, (PB.out.trans (B2.out.mono PB.out.size)).setCell (p := ⟨w2.heap.size, pp, none⟩) GB.out.size _⟩
            · rw [getD_set hl]
              rcases Nat.lt_succ_iff_lt_or_eq.1 hg with h | h
              · have h3 := PS.out g h h1 p h2
                split
                · rename_i he
                  subst he
                  rw [getD_of HX.out] at h3
                  omega
                · exact h3
              · subst h
                have h3 : pp = p := by
                  have h4 := HPP.out
                  rw [h2] at h4
                  omega
                rw [if_pos h3]
                rw [getD_of HY.out] at h1
                omega
            · have := (PX.out.below B2.out).set pp (iN (x + y))
              rw [map_set iN] at this
              have e : iN (x + y) = .int .i64 ((x : Int) + (y : Int)) := by simp [iN]
              rw [e] at this
              exact this
          case measure => omega
        · have bt : ¬ (t : Int) < 16 := by omega
          have hte : t = 16 := by omega
          have HPS : Hid (∀ q < m + 1, 0 < ps.getD q 0) := fun q hq => by
            obtain ⟨i, h1, h2⟩ := HSQ.out q hq
            exact PS.out (gs i) (by rw [hte]; exact HGL.out i) (GS2.out i h1) q h2
          clear hte
          obtain ⟨w3, hw3⟩ : ∃ w3, w3 = wr := ⟨_, rfl⟩
          subst hw3
          go_wp2_with fail
          go_loopg [9] (m + 2) (fun gh iv wr => ∃ (q : Nat), iv = .int .i64 (q : Int) ∧ q ≤ m + 1 ∧ m + 2 ≤ gh + q ∧ w3 = wr)
          case atStart => exact ⟨0, rfl, by omega, by omega, rfl⟩
          case round =>
            obtain ⟨q, rfl, hq, hgq, rfl⟩ := hrel
            obtain ⟨gj, rfl⟩ : ∃ go, gk = go + 1 := ⟨gk - 1, by omega⟩
            by_cases hql : q < m + 1
            · have bq : (q : Int) < 1 + (m : Int) := by omega
              have bq1 : (q : Int) < (m : Int) + 1 := by omega
              obtain ⟨x, hx⟩ := get_of_lt (l := ps) (i := q) (by rw [PL.out]; exact hql)
              have c0 := iN_at PX.out hx
              have hx0 : (x == 0) = false := by
                have := HPS.out q hql
                rw [getD_of hx] at this
                simp; omega
              have hx1 : ((x : Int) == 0) = false := by
                have := HPS.out q hql
                rw [getD_of hx] at this
                simp; omega
              clear hx
              go_wp2_with fail
              go_roundg gj
              case rel => exact ⟨q + 1, by go_num, by omega, by omega, rfl⟩
              case measure => omega
            · have bq : ¬ (q : Int) < 1 + (m : Int) := by omega
              go_wp2_with fail
              go_ret
              exact ⟨rfl, PB.out⟩
end Go.Proofs.Ytfiafbfbiidnlaa
