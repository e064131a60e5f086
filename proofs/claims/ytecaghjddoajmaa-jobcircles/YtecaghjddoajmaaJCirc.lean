/-
  JobCircles walked.
-/
import Derived.Test.YtecaghjddoajmaaJSet
namespace Go.Proofs.Ytecaghjddoajmaa
open Go.RowKit

theorem tmod_emod {k n : Int} (hn : 0 < n) : (if k.tmod n < 0 then k.tmod n + n else k.tmod n) = k % n := by
  have h1 : 0 ≤ k % n := Int.emod_nonneg _ (by omega)
  have h2 : k % n < n := Int.emod_lt_of_pos _ hn
  have h3 := Int.emod_add_mul_ediv k n
  have h4 := Int.tmod_add_mul_tdiv k n
  rw [Int.tmod_eq_emod]
  have hn' : (n.natAbs : Int) = n := by omega
  split <;> split <;> omega
set_option maxHeartbeats 1000000 in
set_option maxRecDepth 100000 in
theorem Place_any (w : World) (k n : Int) (hn : 0 < n) (hn2 : n ≤ 1000000) : Calls Try.prog 22 #[.int .i64 k, .int .i64 n] w fun e w' => e = .returned (.int .i64 (k % n)) ∧ w = w' := by
  have hz : (n == 0) = false := by simp; omega
  have hz' : n ≠ 0 := by omega
  have hm1 : -n < k.tmod n := by
    have h5 := Int.lt_tmod_of_pos k hn
    omega
  have hm2 : k.tmod n < n := Int.tmod_lt_of_pos k hn
  have hw0 : IntKind.i64.wrap (k.tmod n) = k.tmod n := by rw [IntKind.wrap_i64]; omega
  have hw1 : wrap64 (k.tmod n) = k.tmod n := by unfold wrap64; omega
  have hw2 : wrap64 (k.tmod n + n) = k.tmod n + n := by unfold wrap64; omega
  have he := tmod_emod (k := k) hn
  by_cases h0 : k.tmod n < 0
  · rw [if_pos h0] at he
    go_enter Try.func22, Try.ntmps22
    go_wp2
    all_goals go_ret
    all_goals exact ⟨rfl, rfl⟩
  · rw [if_neg h0] at he
    go_enter Try.func22, Try.ntmps22
    go_wp2
    all_goals go_ret
    all_goals exact ⟨rfl, rfl⟩

theorem cRow_succ (k : Nat) : cRow (k + 1) = cRow k ++ [cUn [(k : Int)]] := by
  unfold cRow
  rw [List.range_succ, List.map_append]
  rfl
theorem strip_len {ns ms : List Nd} (h : ns.map Nd.strip = ms) : ns.length = ms.length := by rw [← h, List.length_map]
theorem cRow_kind (k : Nat) : ∀ x ∈ cRow k, x.kind = 1 ∨ x.kind = 5 := by
  intro x hx
  unfold cRow at hx
  rcases List.mem_cons.1 hx with rfl | hx
  · exact .inl rfl
  · obtain ⟨i, _, rfl⟩ := List.mem_map.1 hx
    exact .inr rfl
theorem circ_noE {w : World} {ns : List Nd} {n : Nat} (h : ns.map Nd.strip = cJob n) : ExOk w ns := by
  refine ExOk.noE (fun x hx hk => ?_)
  have h1 : x.strip ∈ cJob n := by rw [← h]; exact List.mem_map.2 ⟨x, hx, rfl⟩
  have h2 : x.strip.kind = x.kind := rfl
  unfold cJob at h1
  rcases List.mem_append.1 h1 with h1 | h1
  · have := cRow_kind n _ h1
    omega
  · rcases List.mem_singleton.1 h1 with h1
    rw [h1] at h2
    simp only [cSnk] at h2
    omega
theorem circ_noE2 {w : World} {ns : List Nd} {n f t : Nat} (h : ns.map Nd.strip = cBad n f t) : ExOk w ns := by
  refine ExOk.noE (fun x hx hk => ?_)
  have h1 : x.strip ∈ cBad n f t := by rw [← h]; exact List.mem_map.2 ⟨x, hx, rfl⟩
  have h2 : x.strip.kind = x.kind := rfl
  unfold cBad at h1
  rcases List.mem_or_eq_of_mem_set h1 with h1 | h1
  · unfold cJob at h1
    rcases List.mem_append.1 h1 with h1 | h1
    · have := cRow_kind n _ h1
      omega
    · rcases List.mem_singleton.1 h1 with h1
      rw [h1] at h2
      simp only [cSnk] at h2
      omega
  · rw [h1] at h2
    simp only [cUn] at h2
    omega
theorem circ_at {n t : Nat} (h : t < n) : (cJob n)[1 + t]? = some (cUn [(t : Int)]) := by
  unfold cJob cRow
  rw [List.getElem?_append_left (by simp; omega), Nat.add_comm, List.getElem?_cons_succ, List.getElem?_map, List.getElem?_range h]
  rfl
theorem cRow_len (k : Nat) : (cRow k).length = k + 1 := by simp [cRow]
set_option maxHeartbeats 8000000 in
set_option maxRecDepth 100000 in
theorem JobCircles_walk (w : World) (n0 f0 t0 : Int) : Calls Try.prog 6 #[.int .i64 n0, .int .i64 f0, .int .i64 t0] w fun e w' => e = .returned (.bool true) ∧ Below w.heap.size w w' := by
  obtain ⟨m, hm, hm7⟩ : ∃ m : Nat, n0 % 8 = (m : Int) ∧ m ≤ 7 := ⟨(n0 % 8).toNat, by omega, by omega⟩
  obtain ⟨f, hf, hf1⟩ : ∃ f : Nat, f0 % (1 + (m : Int)) = (f : Int) ∧ f < 1 + m := by
    have h1 := Int.emod_nonneg f0 (show (1 + (m : Int)) ≠ 0 by omega)
    have h2 := Int.emod_lt_of_pos f0 (show 0 < (1 + (m : Int)) by omega)
    exact ⟨(f0 % (1 + (m : Int))).toNat, by omega, by omega⟩
  obtain ⟨t, ht, ht1⟩ : ∃ t : Nat, t0 % (1 + (m : Int)) = (t : Int) ∧ t < 1 + m := by
    have h1 := Int.emod_nonneg t0 (show (1 + (m : Int)) ≠ 0 by omega)
    have h2 := Int.emod_lt_of_pos t0 (show 0 < (1 + (m : Int)) by omega)
    exact ⟨(t0 % (1 + (m : Int))).toNat, by omega, by omega⟩
  have HK := hide (known_any w)
  -- the row is made
  rcases Nat.lt_or_ge f t with hft | hft
  · have hd : decide (f < t) = true := by simp [hft]
    have hq : (f : Int) < (t : Int) := by omega
    go_enter Try.func6, Try.ntmps6
    go_wp2_with (first
      | (go_at_call 8; refine HK.out.mono ?_; rintro e w1 ⟨rfl, b1⟩; have B1 := hide b1; clear b1 HK)
      | (go_at_call 22; refine (Place_any _ _ _ (by omega) (by omega)).mono ?_; rintro e w9 ⟨rfl, rfl⟩))
    go_loopg [8] (m + 2) (fun g iv wr => ∃ (k : Nat) (v : Value) (ns : List Nd), iv = .int .i64 (k : Int) ∧ k ≤ m + 1 ∧ m + 2 ≤ g + k ∧ Hid (JB w1.heap.size wr (w1.heap.size + 1) v ns) ∧ Hid (ns.map Nd.strip = cRow k) ∧ Hid (∀ x ∈ ns, x.ins.length ≤ 1) ∧ Hid (Below w1.heap.size w1 wr))
    case atStart =>
      refine ⟨0, _, [cSrc], rfl, by omega, by omega, ⟨BoxT.new_at (by simp), OwnL.mk1 (Nd.cs_len _) (Nat.le_refl _) ((BoxT.new 49 w1 _).alloc _), fun n hn => ?_, by omega⟩, rfl, fun x hx => ?_, ((Below.refl _ _).alloc (Nat.le_refl _) _).alloc (by simp) _⟩
      · rcases List.mem_singleton.1 hn with rfl
        exact OwnL.nil _ _ _ _ _
      · rcases List.mem_singleton.1 hx with rfl
        simp [cSrc]
    case round =>
      obtain ⟨k, v, ns, rfl, hk, hg, GJ, GS, GN, GB⟩ := hrel
      obtain ⟨go, rfl⟩ : ∃ go, gk = go + 1 := ⟨gk - 1, by omega⟩
      obtain ⟨va, vc, rfl⟩ := GJ.out.row.shape
      have hnl : ns.length = k + 1 := (strip_len GS.out).trans (cRow_len k)
      have hnl1 : ns.length ≤ 1000 := by omega
      obtain ⟨cK, fK⟩ := GJ.out.cell
      by_cases hlt : k < m + 1
      · have hl2 : (k : Int) < 1 + (m : Int) := by omega
        have hb2 : Below wr.heap.size wr ((wr.alloc (.cells (ic (k : Int)).toArray 3)).alloc (.cells (Nd.cs ⟨5, some ⟨wr.heap.size, 0, none⟩, 1, [(k : Int)], 2, e0, 0, 0, 0, 0⟩).toArray 49)) := ((Below.refl _ _).alloc (Nat.le_refl _) _).alloc (by simp) _
        have J2 := hide (GJ.out.below hb2)
        have HI : Hid (OwnL 3 1 ic w1.heap.size ((wr.alloc (.cells (ic (k : Int)).toArray 3)).alloc (.cells (Nd.cs ⟨5, some ⟨wr.heap.size, 0, none⟩, 1, [(k : Int)], 2, e0, 0, 0, 0, 0⟩).toArray 49)) (.slice (some ⟨wr.heap.size, 0, none⟩) 1 1) [(k : Int)]) :=
          OwnL.mk1 (ic_len _) GB.out.size ((BoxT.new 3 wr _).alloc _)
        have HN : Hid (∀ (j : Nat) (u : Value), (Nd.cs ⟨5, some ⟨wr.heap.size, 0, none⟩, 1, [(k : Int)], 2, e0, 0, 0, 0, 0⟩)[j]? = some u → ((wr.alloc (.cells (ic (k : Int)).toArray 3)).alloc (.cells (Nd.cs ⟨5, some ⟨wr.heap.size, 0, none⟩, 1, [(k : Int)], 2, e0, 0, 0, 0, 0⟩).toArray 49)).cell? ((⟨wr.heap.size + 1, 0, none⟩ : Addr).add j) = some u) := fun j u hj => by
          rw [add_plain2, Nat.zero_add, (BoxT.new_at (t := 49) (w := wr.alloc (.cells (ic (k : Int)).toArray 3)) (by simp)).cellAt]
          simpa using hj
        have hbz : w1.heap.size ≤ ((wr.alloc (.cells (ic (k : Int)).toArray 3)).alloc (.cells (Nd.cs ⟨5, some ⟨wr.heap.size, 0, none⟩, 1, [(k : Int)], 2, e0, 0, 0, 0, 0⟩).toArray 49)).heap.size := Nat.le_trans GB.out.size hb2.size
        have HBZ := hide hbz
        have HB2 := hide hb2
        have HNL := hide hnl
        clear hbz hb2 hnl
        unfold ic Nd.cs e0 at J2 HI HN HBZ HB2
        simp only at J2 HI HN HBZ HB2
        go_wp2_with (at_builtin; refine app_nd rfl _ _ rfl w1.heap.size (.slice va ns.length vc) ns rfl J2.out.row ⟨wr.heap.size + 1, 0, none⟩ 1 ⟨5, some ⟨wr.heap.size, 0, none⟩, 1, [(k : Int)], 2, e0, 0, 0, 0, 0⟩ rfl HN.out hnl1 HBZ.out ?_; intro v4 w4 h4 g4 n4; obtain ⟨a4, c4, hv4⟩ := h4.shape; rw [List.length_append, List.length_singleton] at hv4; subst hv4; have JG := hide (J2.out.grown h4 g4 HI.out); have c5 : w4.cell? ⟨w1.heap.size + 1, 0, none⟩ = some (.slice va ns.length vc) := (by rw [JG.out.1.cellAt]; rfl); have f5 := JG.out.1.free 0)
        go_roundg go
        case rel =>
          refine ⟨k + 1, _, _, by go_num, by omega, by omega, JG.out.2, ?_, fun x hx => ?_, GB.out.trans ((HB2.out.mono GB.out.size).trans (J2.out.grownBelow g4 HBZ.out))⟩
          · show List.map Nd.strip (ns ++ [_]) = _
            rw [List.map_append, GS.out, cRow_succ]
            rfl
          · rcases List.mem_append.1 hx with hx | hx
            · exact GN.out x hx
            · rcases List.mem_singleton.1 hx with rfl
              simp
        case measure => omega
      · have hke : k = m + 1 := by omega
        subst hke
        have hl2 : ¬ (((m + 1 : Nat)) : Int) < 1 + (m : Int) := by omega
        have hb2 : Below wr.heap.size wr ((wr.alloc (.cells (ic (1 + (m : Int))).toArray 3)).alloc (.cells (Nd.cs ⟨8, some ⟨wr.heap.size, 0, none⟩, 1, [1 + (m : Int)], 1, e0, 0, 0, 0, 0⟩).toArray 49)) := ((Below.refl _ _).alloc (Nat.le_refl _) _).alloc (by simp) _
        have J2 := hide (GJ.out.below hb2)
        have HI : Hid (OwnL 3 1 ic w1.heap.size ((wr.alloc (.cells (ic (1 + (m : Int))).toArray 3)).alloc (.cells (Nd.cs ⟨8, some ⟨wr.heap.size, 0, none⟩, 1, [1 + (m : Int)], 1, e0, 0, 0, 0, 0⟩).toArray 49)) (.slice (some ⟨wr.heap.size, 0, none⟩) 1 1) [1 + (m : Int)]) :=
          OwnL.mk1 (ic_len _) GB.out.size ((BoxT.new 3 wr _).alloc _)
        have HN : Hid (∀ (j : Nat) (u : Value), (Nd.cs ⟨8, some ⟨wr.heap.size, 0, none⟩, 1, [1 + (m : Int)], 1, e0, 0, 0, 0, 0⟩)[j]? = some u → ((wr.alloc (.cells (ic (1 + (m : Int))).toArray 3)).alloc (.cells (Nd.cs ⟨8, some ⟨wr.heap.size, 0, none⟩, 1, [1 + (m : Int)], 1, e0, 0, 0, 0, 0⟩).toArray 49)).cell? ((⟨wr.heap.size + 1, 0, none⟩ : Addr).add j) = some u) := fun j u hj => by
          rw [add_plain2, Nat.zero_add, (BoxT.new_at (t := 49) (w := wr.alloc (.cells (ic (1 + (m : Int))).toArray 3)) (by simp)).cellAt]
          simpa using hj
        have hbz : w1.heap.size ≤ ((wr.alloc (.cells (ic (1 + (m : Int))).toArray 3)).alloc (.cells (Nd.cs ⟨8, some ⟨wr.heap.size, 0, none⟩, 1, [1 + (m : Int)], 1, e0, 0, 0, 0, 0⟩).toArray 49)).heap.size := Nat.le_trans GB.out.size hb2.size
        have HBZ := hide hbz
        have HB2 := hide hb2
        have HNL := hide hnl
        clear hbz hb2 hnl
        unfold ic Nd.cs e0 at J2 HI HN HBZ HB2
        simp only at J2 HI HN HBZ HB2
        go_wp2_with (at_builtin; refine app_nd rfl _ _ rfl w1.heap.size (.slice va ns.length vc) ns rfl J2.out.row ⟨wr.heap.size + 1, 0, none⟩ 1 ⟨8, some ⟨wr.heap.size, 0, none⟩, 1, [1 + (m : Int)], 1, e0, 0, 0, 0, 0⟩ rfl HN.out hnl1 HBZ.out ?_; intro v4 w4 h4 g4 n4; obtain ⟨a4, c4, hv4⟩ := h4.shape; rw [List.length_append, List.length_singleton] at hv4; subst hv4; have JG := hide (J2.out.grown h4 g4 HI.out); have c5 : w4.cell? ⟨w1.heap.size + 1, 0, none⟩ = some (.slice va ns.length vc) := (by rw [JG.out.1.cellAt]; rfl); have f5 := JG.out.1.free 0)
        refine step_any ?_
        intro w5 hw5
        have J5 : Hid (JB w1.heap.size w5 (w1.heap.size + 1) (.slice a4 (ns.length + 1) c4) (ns ++ [⟨8, some ⟨wr.heap.size, 0, none⟩, 1, [1 + (m : Int)], 1, e0, 0, 0, 0, 0⟩])) := by rw [hw5]; exact JG.out.2
        have B5 : Hid (Below w1.heap.size w1 w5) := by rw [hw5]; exact GB.out.trans ((HB2.out.mono GB.out.size).trans (J2.out.grownBelow g4 HBZ.out))
        obtain ⟨ks, hks⟩ : ∃ ks, ns ++ [⟨8, some ⟨wr.heap.size, 0, none⟩, 1, [1 + (m : Int)], 1, e0, 0, 0, 0, 0⟩] = ks := ⟨_, rfl⟩
        have HS5 : Hid (ks.map Nd.strip = cJob (m + 1)) := (show ks.map Nd.strip = cJob (m + 1) by rw [← hks, List.map_append, GS.out]; unfold cJob cSnk; rw [show (((m + 1 : Nat)) : Int) = 1 + (m : Int) from by omega]; rfl)
        have HI5 : Hid (∀ x ∈ ks, x.ins.length ≤ 1) := by
          intro x hx
          rw [← hks] at hx
          rcases List.mem_append.1 hx with hx | hx
          · exact GN.out x hx
          · rcases List.mem_singleton.1 hx with rfl
            simp
        have hkl : ns.length + 1 = m + 3 := by rw [HNL.out]
        have HKL : Hid (ks.length = m + 3) := (show ks.length = m + 3 by rw [← hks, List.length_append, List.length_singleton, HNL.out])
        rw [hks] at J5
        clear hks hw5 JG J2 c5 f5 h4 g4 n4 HN HI HBZ HB2 GJ GS GN GB cK fK
        have hjob := J5.out.job (by rw [HKL.out]; omega) (fun x hx => by have := HI5.out x hx; omega)
        obtain ⟨cg1, cg2⟩ := circ_good (m + 1) (by simp; omega)
        refine (Check_any hjob (circ_noE HS5.out)).mono ?_
        rintro e w6 ⟨rfl, b6⟩
        rw [← errJ_strip, HS5.out, cg1]
        have J6 := hide (J5.out.below b6)
        have B6 := hide (B5.out.trans (b6.mono B5.out.size))
        obtain ⟨c6, -⟩ := J6.out.cell
        rw [hkl] at c6
        clear b6 J5 B5 hjob
        go_wp2_with fail
        have hjob := J6.out.job (by rw [HKL.out]; omega) (fun x hx => by have := HI5.out x hx; omega)
        rw [hkl] at hjob
        refine (Order_any hjob (by rw [HKL.out]; omega)).mono ?_
        rintro e w7 ⟨rv, rfl, o7, b7⟩
        obtain ⟨ra, rc, rfl⟩ := o7.shape
        have hol : (ordC (ks.map Nd.ins)).length = m + 3 := by rw [← ins_strip, HS5.out, cg2]
        rw [hol]
        have J7 := hide (J6.out.below b7)
        have B7 := hide (B6.out.trans (b7.mono B6.out.size))
        clear b7 J6 B6 hjob o7 c6 hol cg1 cg2
        obtain ⟨nd, hnd⟩ := get_of_lt (l := ks) (i := 1 + f) (by rw [HKL.out]; omega)
        obtain ⟨g, cap, hv, hg1, cg, fg, hset⟩ := J7.out.setIn hnd
        obtain ⟨ea, -, ec⟩ := Value.slice.inj hv
        subst ea ec
        clear hv
        obtain ⟨c7, -⟩ := J7.out.cell
        have hba : Below w7.heap.size w7 (w7.alloc (.cells #[.int .i64 (f : Int), .int .i64 (1 + (t : Int))] 3)) := (Below.refl _ _).alloc (Nat.le_refl _) _
        have J8 := hide (J7.out.below hba)
        have HO8 : Hid (OwnL 3 1 ic w1.heap.size (w7.alloc (.cells #[.int .i64 (f : Int), .int .i64 (1 + (t : Int))] 3)) (.slice (some ⟨w7.heap.size, 0, none⟩) 2 2) [(f : Int), 1 + (t : Int)]) :=
          OwnL.mkA (xs := [(f : Int), 1 + (t : Int)]) ic_len (by decide) B7.out.size (BoxT.new 3 w7 _) (by simp) (by unfold maxLen; omega) rfl (fun i x j u hx hu => by
            match i, hx with
            | 0, hx =>
              simp at hx; subst hx
              match j, hu with
              | 0, hu => simpa [ic] using hu
            | 1, hx =>
              simp at hx; subst hx
              match j, hu with
              | 0, hu => simpa [ic] using hu)
        obtain ⟨g', cap', hv', hg1', cg', fg', hset'⟩ := J8.out.setIn hnd
        obtain ⟨eg, -, ec⟩ := Value.slice.inj hv'
        cases eg
        subst ec
        clear hv'
        have HS8 := hide (hset' _ _ _ HO8.out)
        have hgl := hide hg1
        have B8 := hide (B7.out.trans (hba.mono B7.out.size))
        rw [hkl] at c7
        have bT : (1 + (f : Int)) < ((m + 3 : Nat) : Int) := by omega
        have hii : (1 + (f : Int)).toNat = 1 + f := by omega
        have hck : ∀ (j : Nat) (u : Value), ((w7.alloc (.cells #[.int .i64 (f : Int), .int .i64 (1 + (t : Int))] 3)).setCell ⟨g, j, none⟩ u).cell? ⟨w1.heap.size + 1, 0, none⟩ = some (.slice (some ⟨g, 0, none⟩) (m + 3) c4) := fun j u => by
          obtain ⟨cur, hcur⟩ := J8.out.row.has g rfl
          have hne : w1.heap.size + 1 ≠ g := J8.out.box.ne (t' := 49) hcur (by decide)
          have := (J8.out.box.other j u hne).cellAt 0
          rw [this, hkl]; rfl
        go_wp2_with fail
        refine step_any ?_
        intro w9 hw9
        have J9 : Hid (JB w1.heap.size w9 (w1.heap.size + 1) (.slice (some ⟨g, 0, none⟩) (m + 3) c4) (ks.set (1 + f) { nd with ia := some ⟨w7.heap.size, 0, none⟩, ic := 2, ins := [(f : Int), 1 + (t : Int)] })) := by
          rw [hw9, ← hkl]; exact HS8.out
        have B9 : Hid (Below w1.heap.size w1 w9) := by rw [hw9]; exact B8.out.setCell hgl.out _
        clear hw9 hck HS8 hset hset' J8 HO8 B8 cg fg cg' fg' c7 J7 B7
        obtain ⟨qs, hqs⟩ : ∃ qs, ks.set (1 + f) { nd with ia := some ⟨w7.heap.size, 0, none⟩, ic := 2, ins := [(f : Int), 1 + (t : Int)] } = qs := ⟨_, rfl⟩
        have HSQ : Hid (qs.map Nd.strip = cBad (m + 1) t f) := (show qs.map Nd.strip = cBad (m + 1) t f by
          rw [← hqs, List.map_set, HS5.out]
          unfold cBad
          congr 1
          have hst : (cJob (m + 1))[1 + f]? = some nd.strip := by rw [← HS5.out, List.getElem?_map, hnd]; rfl
          rw [circ_at (by omega)] at hst
          have hst2 := Option.some.inj hst
          show { nd.strip with ia := none, ic := 0, ins := [(f : Int), 1 + (t : Int)] } = _
          rw [← hst2]
          rfl)
        have HIQ : Hid (∀ x ∈ qs, x.ins.length ≤ 2) := by
          intro x hx
          rw [← hqs] at hx
          rcases List.mem_or_eq_of_mem_set hx with hx | rfl
          · have := HI5.out x hx; omega
          · simp
        have HQL : Hid (qs.length = m + 3) := (show qs.length = m + 3 by rw [← hqs, List.length_set]; exact HKL.out)
        rw [hqs] at J9
        obtain ⟨cb1, cb2, cb3⟩ := circ_bad (m + 1) (by simp; omega) t (by simp; omega) f (by simp; omega)
        have HNE : Hid (∀ w, ExOk w qs) := fun w => circ_noE2 HSQ.out
        have HC3 : Hid ((ordC (qs.map Nd.ins)).length = 1 + f) := (show (ordC (qs.map Nd.ins)).length = 1 + f by rw [← ins_strip, HSQ.out, cb3])
        have HC1 : Hid (errJ qs = 83) := (show errJ qs = 83 by rw [← errJ_strip, HSQ.out, cb1])
        have HC2 : Hid (errW qs = 83) := (show errW qs = 83 by rw [← errW_strip, HSQ.out, cb2])
        clear hqs hnd cb1 cb2 cb3
        have hjob := J9.out.job (by rw [HQL.out]; omega) (fun x hx => by have := HIQ.out x hx; omega)
        refine (Order_any hjob (by rw [HQL.out]; omega)).mono ?_
        rintro e w10 ⟨rv, rfl, o10, b10⟩
        obtain ⟨oa, oc, rfl⟩ := o10.shape
        rw [HC3.out]
        have J10 := hide (J9.out.below b10)
        have B10 := hide (B9.out.trans (b10.mono B9.out.size))
        obtain ⟨c10, -⟩ := J10.out.cell
        clear b10 o10 J9 B9 hjob
        go_wp2_with fail
        have hjob := J10.out.job (by rw [HQL.out]; omega) (fun x hx => by have := HIQ.out x hx; omega)
        refine (Check_any hjob (HNE.out _)).mono ?_
        rintro e w11 ⟨rfl, b11⟩
        rw [HC1.out]
        have J11 := hide (J10.out.below b11)
        have B11 := hide (B10.out.trans (b11.mono B10.out.size))
        obtain ⟨c11, -⟩ := J11.out.cell
        have hle : ((((1 + f : Nat)) : Int) == 1 + (f : Int)) = true := by simp
        clear b11 J10 B10 hjob c10
        go_wp2_with fail
        have hjob := J11.out.job (by rw [HQL.out]; omega) (fun x hx => by have := HIQ.out x hx; omega)
        refine (Weights_any hjob (HNE.out _)).mono ?_
        rintro e w12 ⟨u, rfl, hw, b12⟩
        obtain rfl : u = .slice none 0 0 := hw.elim (fun h => h.2) (fun h => absurd (HC2.out.symm.trans h.1) (by decide))
        clear hw
        go_wp2_with fail
        go_ret
        exact ⟨rfl, B1.out.trans ((B11.out.trans (b12.mono B11.out.size)).mono B1.out.size)⟩
  · have hd : decide (f < t) = false := by simp; omega
    have hq : ¬ (f : Int) < (t : Int) := by omega
    go_enter Try.func6, Try.ntmps6
    go_wp2_with (first
      | (go_at_call 8; refine HK.out.mono ?_; rintro e w1 ⟨rfl, b1⟩; have B1 := hide b1; clear b1 HK)
      | (go_at_call 22; refine (Place_any _ _ _ (by omega) (by omega)).mono ?_; rintro e w9 ⟨rfl, rfl⟩))
    go_loopg [8] (m + 2) (fun g iv wr => ∃ (k : Nat) (v : Value) (ns : List Nd), iv = .int .i64 (k : Int) ∧ k ≤ m + 1 ∧ m + 2 ≤ g + k ∧ Hid (JB w1.heap.size wr (w1.heap.size + 1) v ns) ∧ Hid (ns.map Nd.strip = cRow k) ∧ Hid (∀ x ∈ ns, x.ins.length ≤ 1) ∧ Hid (Below w1.heap.size w1 wr))
    case atStart =>
      refine ⟨0, _, [cSrc], rfl, by omega, by omega, ⟨BoxT.new_at (by simp), OwnL.mk1 (Nd.cs_len _) (Nat.le_refl _) ((BoxT.new 49 w1 _).alloc _), fun n hn => ?_, by omega⟩, rfl, fun x hx => ?_, ((Below.refl _ _).alloc (Nat.le_refl _) _).alloc (by simp) _⟩
      · rcases List.mem_singleton.1 hn with rfl
        exact OwnL.nil _ _ _ _ _
      · rcases List.mem_singleton.1 hx with rfl
        simp [cSrc]
    case round =>
      obtain ⟨k, v, ns, rfl, hk, hg, GJ, GS, GN, GB⟩ := hrel
      obtain ⟨go, rfl⟩ : ∃ go, gk = go + 1 := ⟨gk - 1, by omega⟩
      obtain ⟨va, vc, rfl⟩ := GJ.out.row.shape
      have hnl : ns.length = k + 1 := (strip_len GS.out).trans (cRow_len k)
      have hnl1 : ns.length ≤ 1000 := by omega
      obtain ⟨cK, fK⟩ := GJ.out.cell
      by_cases hlt : k < m + 1
      · have hl2 : (k : Int) < 1 + (m : Int) := by omega
        have hb2 : Below wr.heap.size wr ((wr.alloc (.cells (ic (k : Int)).toArray 3)).alloc (.cells (Nd.cs ⟨5, some ⟨wr.heap.size, 0, none⟩, 1, [(k : Int)], 2, e0, 0, 0, 0, 0⟩).toArray 49)) := ((Below.refl _ _).alloc (Nat.le_refl _) _).alloc (by simp) _
        have J2 := hide (GJ.out.below hb2)
        have HI : Hid (OwnL 3 1 ic w1.heap.size ((wr.alloc (.cells (ic (k : Int)).toArray 3)).alloc (.cells (Nd.cs ⟨5, some ⟨wr.heap.size, 0, none⟩, 1, [(k : Int)], 2, e0, 0, 0, 0, 0⟩).toArray 49)) (.slice (some ⟨wr.heap.size, 0, none⟩) 1 1) [(k : Int)]) :=
          OwnL.mk1 (ic_len _) GB.out.size ((BoxT.new 3 wr _).alloc _)
        have HN : Hid (∀ (j : Nat) (u : Value), (Nd.cs ⟨5, some ⟨wr.heap.size, 0, none⟩, 1, [(k : Int)], 2, e0, 0, 0, 0, 0⟩)[j]? = some u → ((wr.alloc (.cells (ic (k : Int)).toArray 3)).alloc (.cells (Nd.cs ⟨5, some ⟨wr.heap.size, 0, none⟩, 1, [(k : Int)], 2, e0, 0, 0, 0, 0⟩).toArray 49)).cell? ((⟨wr.heap.size + 1, 0, none⟩ : Addr).add j) = some u) := fun j u hj => by
          rw [add_plain2, Nat.zero_add, (BoxT.new_at (t := 49) (w := wr.alloc (.cells (ic (k : Int)).toArray 3)) (by simp)).cellAt]
          simpa using hj
        have hbz : w1.heap.size ≤ ((wr.alloc (.cells (ic (k : Int)).toArray 3)).alloc (.cells (Nd.cs ⟨5, some ⟨wr.heap.size, 0, none⟩, 1, [(k : Int)], 2, e0, 0, 0, 0, 0⟩).toArray 49)).heap.size := Nat.le_trans GB.out.size hb2.size
        have HBZ := hide hbz
        have HB2 := hide hb2
        have HNL := hide hnl
        clear hbz hb2 hnl
        unfold ic Nd.cs e0 at J2 HI HN HBZ HB2
        simp only at J2 HI HN HBZ HB2
        go_wp2_with (at_builtin; refine app_nd rfl _ _ rfl w1.heap.size (.slice va ns.length vc) ns rfl J2.out.row ⟨wr.heap.size + 1, 0, none⟩ 1 ⟨5, some ⟨wr.heap.size, 0, none⟩, 1, [(k : Int)], 2, e0, 0, 0, 0, 0⟩ rfl HN.out hnl1 HBZ.out ?_; intro v4 w4 h4 g4 n4; obtain ⟨a4, c4, hv4⟩ := h4.shape; rw [List.length_append, List.length_singleton] at hv4; subst hv4; have JG := hide (J2.out.grown h4 g4 HI.out); have c5 : w4.cell? ⟨w1.heap.size + 1, 0, none⟩ = some (.slice va ns.length vc) := (by rw [JG.out.1.cellAt]; rfl); have f5 := JG.out.1.free 0)
        go_roundg go
        case rel =>
          refine ⟨k + 1, _, _, by go_num, by omega, by omega, JG.out.2, ?_, fun x hx => ?_, GB.out.trans ((HB2.out.mono GB.out.size).trans (J2.out.grownBelow g4 HBZ.out))⟩
          · show List.map Nd.strip (ns ++ [_]) = _
            rw [List.map_append, GS.out, cRow_succ]
            rfl
          · rcases List.mem_append.1 hx with hx | hx
            · exact GN.out x hx
            · rcases List.mem_singleton.1 hx with rfl
              simp
        case measure => omega
      · have hke : k = m + 1 := by omega
        subst hke
        have hl2 : ¬ (((m + 1 : Nat)) : Int) < 1 + (m : Int) := by omega
        have hb2 : Below wr.heap.size wr ((wr.alloc (.cells (ic (1 + (m : Int))).toArray 3)).alloc (.cells (Nd.cs ⟨8, some ⟨wr.heap.size, 0, none⟩, 1, [1 + (m : Int)], 1, e0, 0, 0, 0, 0⟩).toArray 49)) := ((Below.refl _ _).alloc (Nat.le_refl _) _).alloc (by simp) _
        have J2 := hide (GJ.out.below hb2)
        have HI : Hid (OwnL 3 1 ic w1.heap.size ((wr.alloc (.cells (ic (1 + (m : Int))).toArray 3)).alloc (.cells (Nd.cs ⟨8, some ⟨wr.heap.size, 0, none⟩, 1, [1 + (m : Int)], 1, e0, 0, 0, 0, 0⟩).toArray 49)) (.slice (some ⟨wr.heap.size, 0, none⟩) 1 1) [1 + (m : Int)]) :=
          OwnL.mk1 (ic_len _) GB.out.size ((BoxT.new 3 wr _).alloc _)
        have HN : Hid (∀ (j : Nat) (u : Value), (Nd.cs ⟨8, some ⟨wr.heap.size, 0, none⟩, 1, [1 + (m : Int)], 1, e0, 0, 0, 0, 0⟩)[j]? = some u → ((wr.alloc (.cells (ic (1 + (m : Int))).toArray 3)).alloc (.cells (Nd.cs ⟨8, some ⟨wr.heap.size, 0, none⟩, 1, [1 + (m : Int)], 1, e0, 0, 0, 0, 0⟩).toArray 49)).cell? ((⟨wr.heap.size + 1, 0, none⟩ : Addr).add j) = some u) := fun j u hj => by
          rw [add_plain2, Nat.zero_add, (BoxT.new_at (t := 49) (w := wr.alloc (.cells (ic (1 + (m : Int))).toArray 3)) (by simp)).cellAt]
          simpa using hj
        have hbz : w1.heap.size ≤ ((wr.alloc (.cells (ic (1 + (m : Int))).toArray 3)).alloc (.cells (Nd.cs ⟨8, some ⟨wr.heap.size, 0, none⟩, 1, [1 + (m : Int)], 1, e0, 0, 0, 0, 0⟩).toArray 49)).heap.size := Nat.le_trans GB.out.size hb2.size
        have HBZ := hide hbz
        have HB2 := hide hb2
        have HNL := hide hnl
        clear hbz hb2 hnl
        unfold ic Nd.cs e0 at J2 HI HN HBZ HB2
        simp only at J2 HI HN HBZ HB2
        go_wp2_with (at_builtin; refine app_nd rfl _ _ rfl w1.heap.size (.slice va ns.length vc) ns rfl J2.out.row ⟨wr.heap.size + 1, 0, none⟩ 1 ⟨8, some ⟨wr.heap.size, 0, none⟩, 1, [1 + (m : Int)], 1, e0, 0, 0, 0, 0⟩ rfl HN.out hnl1 HBZ.out ?_; intro v4 w4 h4 g4 n4; obtain ⟨a4, c4, hv4⟩ := h4.shape; rw [List.length_append, List.length_singleton] at hv4; subst hv4; have JG := hide (J2.out.grown h4 g4 HI.out); have c5 : w4.cell? ⟨w1.heap.size + 1, 0, none⟩ = some (.slice va ns.length vc) := (by rw [JG.out.1.cellAt]; rfl); have f5 := JG.out.1.free 0)
        refine step_any ?_
        intro w5 hw5
        have J5 : Hid (JB w1.heap.size w5 (w1.heap.size + 1) (.slice a4 (ns.length + 1) c4) (ns ++ [⟨8, some ⟨wr.heap.size, 0, none⟩, 1, [1 + (m : Int)], 1, e0, 0, 0, 0, 0⟩])) := by rw [hw5]; exact JG.out.2
        have B5 : Hid (Below w1.heap.size w1 w5) := by rw [hw5]; exact GB.out.trans ((HB2.out.mono GB.out.size).trans (J2.out.grownBelow g4 HBZ.out))
        obtain ⟨ks, hks⟩ : ∃ ks, ns ++ [⟨8, some ⟨wr.heap.size, 0, none⟩, 1, [1 + (m : Int)], 1, e0, 0, 0, 0, 0⟩] = ks := ⟨_, rfl⟩
        have HS5 : Hid (ks.map Nd.strip = cJob (m + 1)) := (show ks.map Nd.strip = cJob (m + 1) by rw [← hks, List.map_append, GS.out]; unfold cJob cSnk; rw [show (((m + 1 : Nat)) : Int) = 1 + (m : Int) from by omega]; rfl)
        have HI5 : Hid (∀ x ∈ ks, x.ins.length ≤ 1) := by
          intro x hx
          rw [← hks] at hx
          rcases List.mem_append.1 hx with hx | hx
          · exact GN.out x hx
          · rcases List.mem_singleton.1 hx with rfl
            simp
        have hkl : ns.length + 1 = m + 3 := by rw [HNL.out]
        have HKL : Hid (ks.length = m + 3) := (show ks.length = m + 3 by rw [← hks, List.length_append, List.length_singleton, HNL.out])
        rw [hks] at J5
        clear hks hw5 JG J2 c5 f5 h4 g4 n4 HN HI HBZ HB2 GJ GS GN GB cK fK
        have hjob := J5.out.job (by rw [HKL.out]; omega) (fun x hx => by have := HI5.out x hx; omega)
        obtain ⟨cg1, cg2⟩ := circ_good (m + 1) (by simp; omega)
        refine (Check_any hjob (circ_noE HS5.out)).mono ?_
        rintro e w6 ⟨rfl, b6⟩
        rw [← errJ_strip, HS5.out, cg1]
        have J6 := hide (J5.out.below b6)
        have B6 := hide (B5.out.trans (b6.mono B5.out.size))
        obtain ⟨c6, -⟩ := J6.out.cell
        rw [hkl] at c6
        clear b6 J5 B5 hjob
        go_wp2_with fail
        have hjob := J6.out.job (by rw [HKL.out]; omega) (fun x hx => by have := HI5.out x hx; omega)
        rw [hkl] at hjob
        refine (Order_any hjob (by rw [HKL.out]; omega)).mono ?_
        rintro e w7 ⟨rv, rfl, o7, b7⟩
        obtain ⟨ra, rc, rfl⟩ := o7.shape
        have hol : (ordC (ks.map Nd.ins)).length = m + 3 := by rw [← ins_strip, HS5.out, cg2]
        rw [hol]
        have J7 := hide (J6.out.below b7)
        have B7 := hide (B6.out.trans (b7.mono B6.out.size))
        clear b7 J6 B6 hjob o7 c6 hol cg1 cg2
        obtain ⟨nd, hnd⟩ := get_of_lt (l := ks) (i := 1 + t) (by rw [HKL.out]; omega)
        obtain ⟨g, cap, hv, hg1, cg, fg, hset⟩ := J7.out.setIn hnd
        obtain ⟨ea, -, ec⟩ := Value.slice.inj hv
        subst ea ec
        clear hv
        obtain ⟨c7, -⟩ := J7.out.cell
        have hba : Below w7.heap.size w7 (w7.alloc (.cells #[.int .i64 (t : Int), .int .i64 (1 + (f : Int))] 3)) := (Below.refl _ _).alloc (Nat.le_refl _) _
        have J8 := hide (J7.out.below hba)
        have HO8 : Hid (OwnL 3 1 ic w1.heap.size (w7.alloc (.cells #[.int .i64 (t : Int), .int .i64 (1 + (f : Int))] 3)) (.slice (some ⟨w7.heap.size, 0, none⟩) 2 2) [(t : Int), 1 + (f : Int)]) :=
          OwnL.mkA (xs := [(t : Int), 1 + (f : Int)]) ic_len (by decide) B7.out.size (BoxT.new 3 w7 _) (by simp) (by unfold maxLen; omega) rfl (fun i x j u hx hu => by
            match i, hx with
            | 0, hx =>
              simp at hx; subst hx
              match j, hu with
              | 0, hu => simpa [ic] using hu
            | 1, hx =>
              simp at hx; subst hx
              match j, hu with
              | 0, hu => simpa [ic] using hu)
        obtain ⟨g', cap', hv', hg1', cg', fg', hset'⟩ := J8.out.setIn hnd
        obtain ⟨eg, -, ec⟩ := Value.slice.inj hv'
        cases eg
        subst ec
        clear hv'
        have HS8 := hide (hset' _ _ _ HO8.out)
        have hgl := hide hg1
        have B8 := hide (B7.out.trans (hba.mono B7.out.size))
        rw [hkl] at c7
        have bT : (1 + (t : Int)) < ((m + 3 : Nat) : Int) := by omega
        have hii : (1 + (t : Int)).toNat = 1 + t := by omega
        have hck : ∀ (j : Nat) (u : Value), ((w7.alloc (.cells #[.int .i64 (t : Int), .int .i64 (1 + (f : Int))] 3)).setCell ⟨g, j, none⟩ u).cell? ⟨w1.heap.size + 1, 0, none⟩ = some (.slice (some ⟨g, 0, none⟩) (m + 3) c4) := fun j u => by
          obtain ⟨cur, hcur⟩ := J8.out.row.has g rfl
          have hne : w1.heap.size + 1 ≠ g := J8.out.box.ne (t' := 49) hcur (by decide)
          have := (J8.out.box.other j u hne).cellAt 0
          rw [this, hkl]; rfl
        go_wp2_with fail
        refine step_any ?_
        intro w9 hw9
        have J9 : Hid (JB w1.heap.size w9 (w1.heap.size + 1) (.slice (some ⟨g, 0, none⟩) (m + 3) c4) (ks.set (1 + t) { nd with ia := some ⟨w7.heap.size, 0, none⟩, ic := 2, ins := [(t : Int), 1 + (f : Int)] })) := by
          rw [hw9, ← hkl]; exact HS8.out
        have B9 : Hid (Below w1.heap.size w1 w9) := by rw [hw9]; exact B8.out.setCell hgl.out _
        clear hw9 hck HS8 hset hset' J8 HO8 B8 cg fg cg' fg' c7 J7 B7
        obtain ⟨qs, hqs⟩ : ∃ qs, ks.set (1 + t) { nd with ia := some ⟨w7.heap.size, 0, none⟩, ic := 2, ins := [(t : Int), 1 + (f : Int)] } = qs := ⟨_, rfl⟩
        have HSQ : Hid (qs.map Nd.strip = cBad (m + 1) f t) := (show qs.map Nd.strip = cBad (m + 1) f t by
          rw [← hqs, List.map_set, HS5.out]
          unfold cBad
          congr 1
          have hst : (cJob (m + 1))[1 + t]? = some nd.strip := by rw [← HS5.out, List.getElem?_map, hnd]; rfl
          rw [circ_at (by omega)] at hst
          have hst2 := Option.some.inj hst
          show { nd.strip with ia := none, ic := 0, ins := [(t : Int), 1 + (f : Int)] } = _
          rw [← hst2]
          rfl)
        have HIQ : Hid (∀ x ∈ qs, x.ins.length ≤ 2) := by
          intro x hx
          rw [← hqs] at hx
          rcases List.mem_or_eq_of_mem_set hx with hx | rfl
          · have := HI5.out x hx; omega
          · simp
        have HQL : Hid (qs.length = m + 3) := (show qs.length = m + 3 by rw [← hqs, List.length_set]; exact HKL.out)
        rw [hqs] at J9
        obtain ⟨cb1, cb2, cb3⟩ := circ_bad (m + 1) (by simp; omega) f (by simp; omega) t (by simp; omega)
        have HNE : Hid (∀ w, ExOk w qs) := fun w => circ_noE2 HSQ.out
        have HC3 : Hid ((ordC (qs.map Nd.ins)).length = 1 + t) := (show (ordC (qs.map Nd.ins)).length = 1 + t by rw [← ins_strip, HSQ.out, cb3])
        have HC1 : Hid (errJ qs = 83) := (show errJ qs = 83 by rw [← errJ_strip, HSQ.out, cb1])
        have HC2 : Hid (errW qs = 83) := (show errW qs = 83 by rw [← errW_strip, HSQ.out, cb2])
        clear hqs hnd cb1 cb2 cb3
        have hjob := J9.out.job (by rw [HQL.out]; omega) (fun x hx => by have := HIQ.out x hx; omega)
        refine (Order_any hjob (by rw [HQL.out]; omega)).mono ?_
        rintro e w10 ⟨rv, rfl, o10, b10⟩
        obtain ⟨oa, oc, rfl⟩ := o10.shape
        rw [HC3.out]
        have J10 := hide (J9.out.below b10)
        have B10 := hide (B9.out.trans (b10.mono B9.out.size))
        obtain ⟨c10, -⟩ := J10.out.cell
        clear b10 o10 J9 B9 hjob
        go_wp2_with fail
        have hjob := J10.out.job (by rw [HQL.out]; omega) (fun x hx => by have := HIQ.out x hx; omega)
        refine (Check_any hjob (HNE.out _)).mono ?_
        rintro e w11 ⟨rfl, b11⟩
        rw [HC1.out]
        have J11 := hide (J10.out.below b11)
        have B11 := hide (B10.out.trans (b11.mono B10.out.size))
        obtain ⟨c11, -⟩ := J11.out.cell
        have hle : ((((1 + t : Nat)) : Int) == 1 + (t : Int)) = true := by simp
        clear b11 J10 B10 hjob c10
        go_wp2_with fail
        have hjob := J11.out.job (by rw [HQL.out]; omega) (fun x hx => by have := HIQ.out x hx; omega)
        refine (Weights_any hjob (HNE.out _)).mono ?_
        rintro e w12 ⟨u, rfl, hw, b12⟩
        obtain rfl : u = .slice none 0 0 := hw.elim (fun h => h.2) (fun h => absurd (HC2.out.symm.trans h.1) (by decide))
        clear hw
        go_wp2_with fail
        go_ret
        exact ⟨rfl, B1.out.trans ((B11.out.trans (b12.mono B11.out.size)).mono B1.out.size)⟩
end Go.Proofs.Ytecaghjddoajmaa
