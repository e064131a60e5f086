/-
  Texts in build order: SLBy.
-/
import Derived.Test.YtdoldohcimbdaaaGreatM28
import Derived.Test.YtdoldohcimbdaaaGreatM37
import Derived.Test.YtdoldohcimbdaaaGreatM05
/-
  leatref1.Put, and the bytes that the law asks for.
-/
namespace Go.Proofs.YtdoldohcimbdaaaGreat
open Go.RowKit

set_option maxHeartbeats 8000000 in
set_option maxRecDepth 100000 in
theorem rnumber_any {base : Nat} {v : Value} {l : List Nat} (size n : Nat) {w : World} (hs : size ≤ 8) (hl : l.length ≤ 900000) (hb : base ≤ w.heap.size) (hown : OwnL 5 1 u8cs base w v l) :
    Calls Tryz.prog 47 #[v, .int .i64 (size : Int), .int .u64 (n : Int)] w fun e w' => ∃ v', e = .returned v' ∧ OwnL 5 1 u8cs base w' v' (l ++ be size n) ∧ Below base w w' := by
  have HO := hide hown
  clear hown
  go_enter Tryz.func47, Tryz.ntmps47
  go_wp2_with fail
  go_loopg [0, 7] (size + 1) (fun gh v i wr => ∃ k : Nat, k ≤ size ∧ size + 1 ≤ gh + k ∧ i = .int .i64 ((size : Int) - 1 - k) ∧ Hid (OwnL 5 1 u8cs base wr v (l ++ (be size n).take k)) ∧ Hid (Below base w wr))
  case atStart => exact ⟨0, Nat.zero_le _, by omega, by simp, (show OwnL _ _ _ _ _ _ _ by simpa using HO.out), Below.refl _ _⟩
  case round =>
    obtain ⟨k, hk, hg, rfl, GO, GB⟩ := hrel
    obtain ⟨go, rfl⟩ : ∃ go, gk = go + 1 := ⟨gk - 1, by omega⟩
    have hkl : ((be size n).take k).length ≤ 8 := by rw [List.length_take, be_length]; omega
    have HSZ : Hid (base ≤ wr.heap.size) := Nat.le_trans hb GB.out.size
    by_cases hlt : k < size
    · have HT := hide (be_take size n k hlt)
      obtain ⟨va, vc, rfl⟩ := GO.out.shape
      have HLL : Hid ((l ++ (be size n).take k).length ≤ 1000000) := (show _ ≤ _ by rw [List.length_append]; omega)
      generalize hX : n / 2 ^ (8 * (size - 1 - k)) % 256 = X at *
      have HX := hide hX
      clear hX hkl
      have HXI : Hid ((n : Int) / 2 ^ (8 * (size - 1 - k)) % 256 = (X : Int)) := (show _ = _ by rw [cast_byte, HX.out])
      generalize hLL : l ++ (be size n).take k = LL at *
      have HLE := hide hLL
      clear hLL
      go_wp2_with (first | (at_builtin; rw [HXI.out]; refine app_L Tryz.infoU8 Tryz.underlying58 rfl (by decide) (by decide) u8cs_len u8cs_one rfl _ _ rfl base _ LL rfl (GO.out.alloc _) ⟨wr.heap.size, 0, none⟩ 1 X rfl (new1 wr rfl X) HLL.out (by have := HSZ.out; simp; omega) ?_; intro v5 w5 h5 g5 k5) | fail)
      go_roundg go
      case rel => exact ⟨k + 1, by omega, by omega, by go_num, (show OwnL _ _ _ _ _ _ _ by rw [HT.out, ← List.append_assoc, HLE.out]; exact h5), ((GB.out.alloc HSZ.out _).grown g5 (by simp; have := HSZ.out; omega) (fun q e => GO.out.at q e))⟩
      case measure => omega
    · obtain rfl : k = size := by omega
      have HF : Hid (l ++ (be k n).take k = l ++ be k n) := (show _ = _ by rw [List.take_of_length_le (by rw [be_length]; omega)])
      obtain ⟨va, vc, rfl⟩ := GO.out.shape
      go_wp2_with fail
      go_ret
      exact ⟨_, rfl, by rw [← HF.out]; exact GO.out, GB.out⟩
theorem rsigned_any {base : Nat} {v : Value} {l : List Nat} (y : Int) {w : World} (hl : l.length ≤ 900000) (hb : base ≤ w.heap.size) (hown : OwnL 5 1 u8cs base w v l) :
    Calls Tryz.prog 47 #[v, .int .i64 8, .int .u64 (IntKind.u64.wrap y)] w fun e w' => ∃ v', e = .returned v' ∧ OwnL 5 1 u8cs base w' v' (l ++ sbe y) ∧ Below base w w' := by
  have h := rnumber_any 8 (IntKind.u64.wrap y).toNat (by omega) hl hb hown
  rw [wrap_nn] at h
  exact h
set_option maxHeartbeats 32000000 in
set_option maxRecDepth 100000 in
theorem lbytes_any {w : World} {v : Value} {L : List Pn} (hl : LSeg 4 Pn.cs w.heap.size w v L) (hn : L.length ≤ 20000) :
    Calls Tryz.prog 23 #[v] w fun e w' => ∃ u, e = .returned u ∧ OwnL 5 1 u8cs w.heap.size w' u (wrB L) ∧ Below w.heap.size w w' := by
  obtain ⟨ao, cap, rfl⟩ := hl.shapeOf
  have HL := hide hl
  have HNU := hide (rnumber_any (base := w.heap.size) (v := .slice none 0 0) (l := []) 4 L.length (w := w) (by omega) (by simp) (Nat.le_refl _) (OwnL.nil _ _ _ _ _))
  have hu : IntKind.u64.wrap (L.length : Int) = (L.length : Int) := by rw [IntKind.wrap_u64]; omega
  clear hl
  go_enter Tryz.func23, Tryz.ntmps23
  go_wp2_with (first | (go_at_call 47; refine HNU.out.mono ?_; rintro e w2 ⟨v2, rfl, o2, b2⟩; have O2 := hide o2; have B2 := hide b2; obtain ⟨a2, c2, rfl⟩ := o2.shape; clear o2 b2) | fail)
  clear HNU
  go_loopg [3, 4] (L.length + 1) (fun gh bv iv wr => ∃ i : Nat, iv = .int .i64 (i : Int) ∧ i ≤ L.length ∧ L.length + 1 ≤ gh + i ∧ Hid (OwnL 5 1 u8cs w.heap.size wr bv (be 4 L.length ++ (L.take i).flatMap wb)) ∧ Hid (Below w.heap.size w wr))
  case atStart => exact ⟨0, rfl, by omega, by omega, (show OwnL _ _ _ _ _ _ _ by simpa using O2.out), B2⟩
  case round =>
    obtain ⟨i, rfl, hi, hg, GO, GB⟩ := hrel
    obtain ⟨go, rfl⟩ : ∃ go, gk = go + 1 := ⟨gk - 1, by omega⟩
    by_cases hlt : i < L.length
    · as_aux_lemma =>
      obtain ⟨x, hx⟩ := get_of_lt hlt
      have bt : (i : Int) < (L.length : Int) := by omega
      obtain ⟨nb, no, rfl, nlt, e0, e1, e2, e3⟩ := HL.out.pane hx
      have HTS : Hid (be 4 L.length ++ (L.take (i + 1)).flatMap wb = be 4 L.length ++ (L.take i).flatMap wb ++ wb x) := (show _ = _ by
        have e : L[i] = x := by rw [List.getElem?_eq_getElem hlt] at hx; exact Option.some.inj hx
        rw [List.take_succ_eq_append_getElem hlt, e, List.flatMap_append, List.append_assoc]; simp)
      have HLN : Hid ((be 4 L.length ++ (L.take i).flatMap wb).length ≤ 800000) := (show _ ≤ _ by rw [List.length_append, be_length, flat_wb, List.length_take]; omega)
      generalize be 4 L.length ++ (L.take i).flatMap wb = Q at *
      have HNB := hide nlt
      have HE := hide (And.intro e0 (And.intro e1 (And.intro e2 e3)))
      obtain ⟨xk, xf, xt, xa⟩ := x
      simp only at HE
      have KC : Hid (∀ w' : World, Below w.heap.size w w' → w'.cell? ⟨nb, no + i * 4, none⟩ = some (.int .i64 xk) ∧ w'.cell? ⟨nb, no + i * 4 + 1, none⟩ = some (.int .i64 xf) ∧ w'.cell? ⟨nb, no + i * 4 + 2, none⟩ = some (.int .i64 xt) ∧ w'.cell? ⟨nb, no + i * 4 + 3, none⟩ = some (.int .i64 xa)) := (show ∀ w' : World, _ from fun w' h => ⟨(h.cell (p := ⟨nb, no + i * 4, none⟩) HNB.out).trans HE.out.1, (h.cell (p := ⟨nb, no + i * 4 + 1, none⟩) HNB.out).trans HE.out.2.1, (h.cell (p := ⟨nb, no + i * 4 + 2, none⟩) HNB.out).trans HE.out.2.2.1, (h.cell (p := ⟨nb, no + i * 4 + 3, none⟩) HNB.out).trans HE.out.2.2.2⟩)
      obtain ⟨qa, qc, rfl⟩ := GO.out.shape
      have hQ0 : Q.length ≤ 800000 := HLN.out
      obtain ⟨Q1, hQ1⟩ : ∃ Q1, Q ++ sbe xk = Q1 := ⟨_, rfl⟩
      obtain ⟨Q2, hQ2⟩ : ∃ Q2, Q1 ++ sbe xf = Q2 := ⟨_, rfl⟩
      obtain ⟨Q3, hQ3⟩ : ∃ Q3, Q2 ++ sbe xt = Q3 := ⟨_, rfl⟩
      obtain ⟨Q4, hQ4⟩ : ∃ Q4, Q3 ++ sbe xa = Q4 := ⟨_, rfl⟩
      have lQ1 : Q1.length = Q.length + 8 := by rw [← hQ1, List.length_append, sbe_len]
      have lQ2 : Q2.length = Q1.length + 8 := by rw [← hQ2, List.length_append, sbe_len]
      have lQ3 : Q3.length = Q2.length + 8 := by rw [← hQ3, List.length_append, sbe_len]
      have lQ4 : Q4.length = Q3.length + 8 := by rw [← hQ4, List.length_append, sbe_len]
      have HR5 : Hid (∀ (W : World) (v : Value), w.heap.size ≤ W.heap.size → OwnL 5 1 u8cs w.heap.size W v Q → Calls Tryz.prog 47 #[v, .int .i64 8, .int .u64 (IntKind.u64.wrap xk)] W fun e w' => ∃ v', e = .returned v' ∧ OwnL 5 1 u8cs w.heap.size w' v' Q1 ∧ Below w.heap.size W w') := (show ∀ (W : World) (v : Value), _ from fun W v h1 h2 => by rw [← hQ1]; exact rsigned_any xk (by omega) h1 h2)
      have HT5 : Hid (∀ (W : World) (v : Value), w.heap.size ≤ W.heap.size → OwnL 5 1 u8cs w.heap.size W v Q1 → Calls Tryz.prog 47 #[v, .int .i64 8, .int .u64 (IntKind.u64.wrap xf)] W fun e w' => ∃ v', e = .returned v' ∧ OwnL 5 1 u8cs w.heap.size w' v' Q2 ∧ Below w.heap.size W w') := (show ∀ (W : World) (v : Value), _ from fun W v h1 h2 => by rw [← hQ2]; exact rsigned_any xf (by omega) h1 h2)
      have HR6 : Hid (∀ (W : World) (v : Value), w.heap.size ≤ W.heap.size → OwnL 5 1 u8cs w.heap.size W v Q2 → Calls Tryz.prog 47 #[v, .int .i64 8, .int .u64 (IntKind.u64.wrap xt)] W fun e w' => ∃ v', e = .returned v' ∧ OwnL 5 1 u8cs w.heap.size w' v' Q3 ∧ Below w.heap.size W w') := (show ∀ (W : World) (v : Value), _ from fun W v h1 h2 => by rw [← hQ3]; exact rsigned_any xt (by omega) h1 h2)
      have HT6 : Hid (∀ (W : World) (v : Value), w.heap.size ≤ W.heap.size → OwnL 5 1 u8cs w.heap.size W v Q3 → Calls Tryz.prog 47 #[v, .int .i64 8, .int .u64 (IntKind.u64.wrap xa)] W fun e w' => ∃ v', e = .returned v' ∧ OwnL 5 1 u8cs w.heap.size w' v' Q4 ∧ Below w.heap.size W w') := (show ∀ (W : World) (v : Value), _ from fun W v h1 h2 => by rw [← hQ4]; exact rsigned_any xa (by omega) h1 h2)
      have HQ4 : Hid (Q4 = Q ++ wb ⟨xk, xf, xt, xa⟩) := (show _ = _ by rw [← hQ4, ← hQ3, ← hQ2, ← hQ1]; simp [wb])
      clear hQ1 hQ2 hQ3 hQ4 lQ1 lQ2 lQ3 lQ4 hQ0
      have O5 := GO
      clear hu
      clear hx nlt e0 e1 e2 e3
      go_wp2_with fail
      refine wp_region_M (S := fun w' => w'.cell? ⟨nb, no + i * 4, none⟩ = some (.int .i64 xk) ∧ w'.cell? ⟨nb, no + i * 4 + 1, none⟩ = some (.int .i64 xf) ∧ w'.cell? ⟨nb, no + i * 4 + 2, none⟩ = some (.int .i64 xt) ∧ w'.cell? ⟨nb, no + i * 4 + 3, none⟩ = some (.int .i64 xa)) (late := []) (by kernel_rfl) (KC.out _ GB.out.drew) (fun hHeld => ?_)
      (try simp only [List.size_toArray, List.length_cons, List.length_nil, Nat.zero_add, Nat.reduceAdd, Array.replicate, List.replicate])
      refine wpAnyM_take (i := 0) (oi := ⟨_, _, _, _, _, _⟩) (v := ?_) rfl (by kernel_rfl) (by kernel_rfl) (by kernel_rfl) (by kernel_rfl) (fun _ _ _ h => h) (Or.inl ⟨by rfl, ?_⟩) hHeld ?_
      rotate_left
      · (intro w' hSw; (try dsimp only at hSw); go_simp; try (with_reducible rfl))
      (try simp only [Act.put, List.setIfInBounds_toArray, List.set_cons_zero, List.set_cons_succ])
      refine wpAnyM_take (i := 1) (oi := ⟨_, _, _, _, _, _⟩) (v := ?_) rfl (by kernel_rfl) (by kernel_rfl) (by kernel_rfl) (by kernel_rfl) (fun _ _ _ h => h) (Or.inl ⟨by rfl, ?_⟩) hHeld ?_
      rotate_left
      · (intro w' hSw; (try dsimp only at hSw); go_simp; try (with_reducible rfl))
      (try simp only [Act.put, List.setIfInBounds_toArray, List.set_cons_zero, List.set_cons_succ])
      refine wpAnyM_take (i := 2) (oi := ⟨_, _, _, _, _, _⟩) (v := ?_) rfl (by kernel_rfl) (by kernel_rfl) (by kernel_rfl) (by kernel_rfl) (fun _ _ _ h => h) (Or.inl ⟨by rfl, ?_⟩) hHeld ?_
      rotate_left
      · (intro w' hSw; (try dsimp only at hSw); go_simp; try (with_reducible rfl))
      (try simp only [Act.put, List.setIfInBounds_toArray, List.set_cons_zero, List.set_cons_succ])
      refine wpAnyM_take (i := 3) (oi := ⟨_, _, _, _, _, _⟩) (v := ?_) rfl (by kernel_rfl) (by kernel_rfl) (by kernel_rfl) (by kernel_rfl) (fun _ _ _ h => h) (Or.inl ⟨by rfl, ?_⟩) hHeld ?_
      rotate_left
      · (intro w' hSw; (try dsimp only at hSw); go_simp; try (with_reducible rfl))
      (try simp only [Act.put, List.setIfInBounds_toArray, List.set_cons_zero, List.set_cons_succ])
      refine wpAnyM_take (i := 4) (oi := ⟨_, _, _, _, _, _⟩) (v := ?_) rfl (by kernel_rfl) (by kernel_rfl) (by kernel_rfl) (by kernel_rfl) (fun _ _ _ h => h) (Or.inl ⟨by rfl, ?_⟩) hHeld ?_
      rotate_left
      · (intro w' hSw; (try dsimp only at hSw); go_simp; try (with_reducible rfl))
      (try simp only [Act.put, List.setIfInBounds_toArray, List.set_cons_zero, List.set_cons_succ])
      refine wpAnyM_take (i := 5) (oi := ⟨_, _, _, _, _, _⟩) (v := ?_) rfl (by kernel_rfl) (by kernel_rfl) (by kernel_rfl) (by kernel_rfl) (fun _ _ _ h => h) (Or.inl ⟨by rfl, ?_⟩) hHeld ?_
      rotate_left
      · (intro w' hSw; (try dsimp only at hSw); go_simp; try (with_reducible rfl))
      (try simp only [Act.put, List.setIfInBounds_toArray, List.set_cons_zero, List.set_cons_succ])
      refine wpAnyM_take (i := 6) (oi := ⟨_, _, _, _, _, _⟩) (v := ?_) rfl (by kernel_rfl) (by kernel_rfl) (by kernel_rfl) (by kernel_rfl) (fun _ _ _ h => h) (Or.inl ⟨by rfl, ?_⟩) hHeld ?_
      rotate_left
      · (intro w' hSw; (try dsimp only at hSw); go_simp; try (with_reducible rfl))
      (try simp only [Act.put, List.setIfInBounds_toArray, List.set_cons_zero, List.set_cons_succ])
      refine wpAnyM_take (i := 8) (oi := ⟨_, _, _, _, _, _⟩) (v := ?_) rfl (by kernel_rfl) (by kernel_rfl) (by kernel_rfl) (by kernel_rfl) (fun _ _ _ h => h) (Or.inl ⟨by rfl, ?_⟩) hHeld ?_
      rotate_left
      · (intro w' hSw; (try dsimp only at hSw); go_simp; try (with_reducible rfl))
      (try simp only [Act.put, List.setIfInBounds_toArray, List.set_cons_zero, List.set_cons_succ])
      refine wpAnyM_take (i := 9) (oi := ⟨_, _, _, _, _, _⟩) (v := ?_) rfl (by kernel_rfl) (by kernel_rfl) (by kernel_rfl) (by kernel_rfl) (fun _ _ _ h => h) (Or.inl ⟨by rfl, ?_⟩) hHeld ?_
      rotate_left
      · (intro w' hSw; (try dsimp only at hSw); go_simp; try (with_reducible rfl))
      (try simp only [Act.put, List.setIfInBounds_toArray, List.set_cons_zero, List.set_cons_succ])
      refine wpAnyM_take (i := 10) (oi := ⟨_, _, _, _, _, _⟩) (v := ?_) rfl (by kernel_rfl) (by kernel_rfl) (by kernel_rfl) (by kernel_rfl) (fun _ _ _ h => h) (Or.inl ⟨by rfl, ?_⟩) hHeld ?_
      rotate_left
      · (intro w' hSw; (try dsimp only at hSw); go_simp; try (with_reducible rfl))
      (try simp only [Act.put, List.setIfInBounds_toArray, List.set_cons_zero, List.set_cons_succ])
      refine wpAnyM_take (i := 11) (oi := ⟨_, _, _, _, _, _⟩) (v := ?_) rfl (by kernel_rfl) (by kernel_rfl) (by kernel_rfl) (by kernel_rfl) (fun _ _ _ h => h) (Or.inl ⟨by rfl, ?_⟩) hHeld ?_
      rotate_left
      · (intro w' hSw; (try dsimp only at hSw); go_simp; try (with_reducible rfl))
      (try simp only [Act.put, List.setIfInBounds_toArray, List.set_cons_zero, List.set_cons_succ])
      refine wpAnyM_take (i := 12) (oi := ⟨_, _, _, _, _, _⟩) (v := ?_) rfl (by kernel_rfl) (by kernel_rfl) (by kernel_rfl) (by kernel_rfl) (fun _ _ _ h => h) (Or.inl ⟨by rfl, ?_⟩) hHeld ?_
      rotate_left
      · (intro w' hSw; (try dsimp only at hSw); go_simp; try (with_reducible rfl))
      (try simp only [Act.put, List.setIfInBounds_toArray, List.set_cons_zero, List.set_cons_succ])
      refine wpAnyM_take (i := 13) (oi := ⟨_, _, _, _, _, _⟩) (v := ?_) rfl (by kernel_rfl) (by kernel_rfl) (by kernel_rfl) (by kernel_rfl) (fun _ _ _ h => h) (Or.inl ⟨by rfl, ?_⟩) hHeld ?_
      rotate_left
      · (intro w' hSw; (try dsimp only at hSw); go_simp; try (with_reducible rfl))
      (try simp only [Act.put, List.setIfInBounds_toArray, List.set_cons_zero, List.set_cons_succ])
      refine wpAnyM_take (i := 14) (oi := ⟨_, _, _, _, _, _⟩) (v := ?_) rfl (by kernel_rfl) (by kernel_rfl) (by kernel_rfl) (by kernel_rfl) (fun _ _ _ h => h) (Or.inl ⟨by rfl, ?_⟩) hHeld ?_
      rotate_left
      · (intro w' hSw; (try dsimp only at hSw); go_simp; try (with_reducible rfl))
      (try simp only [Act.put, List.setIfInBounds_toArray, List.set_cons_zero, List.set_cons_succ])
      refine wpAnyM_one (i := 7) (o := ⟨_, _, _, _, _, _⟩) (by kernel_rfl) rfl (fun K hK => ?_)
      go_simp
      go_at_call 47
      refine (HR5.out _ _ GB.out.drew.size O5.out.drew).mono ?_
      rintro e w5a ⟨v5a, rfl, o5a, b5a⟩
      have B5a : Hid (Below w.heap.size w w5a) := (show Below _ _ _ from GB.out.drew.trans b5a)
      have O5a := hide o5a
      obtain ⟨a5a, c5a, rfl⟩ := o5a.shape
      refine hK.out _ _ (KC.out _ B5a.out) (fun hHeld => ?_)
      clear hK K o5a b5a
      (try simp only [List.setIfInBounds_toArray, List.set_cons_zero, List.set_cons_succ])
      refine wpAnyM_one (i := 15) (o := ⟨_, _, _, _, _, _⟩) (by kernel_rfl) rfl (fun K hK => ?_)
      go_simp
      go_at_call 47
      refine (HT5.out _ _ B5a.out.size O5a.out).mono ?_
      rintro e w5b ⟨v5b, rfl, o5b, b5b⟩
      have B5b : Hid (Below w.heap.size w w5b) := (show Below _ _ _ from B5a.out.trans b5b)
      have O5b := hide o5b
      obtain ⟨a5b, c5b, rfl⟩ := o5b.shape
      refine hK.out _ _ (KC.out _ B5b.out) (fun hHeld => ?_)
      clear hK K o5b b5b
      (try simp only [List.setIfInBounds_toArray, List.set_cons_zero, List.set_cons_succ])
      refine wpAnyM_one (i := 16) (o := ⟨_, _, _, _, _, _⟩) (by kernel_rfl) rfl (fun K hK => ?_)
      go_simp
      refine hK.out _ _ (KC.out _ B5b.out) (fun hHeld => ?_)
      clear hK K
      (try simp only [List.setIfInBounds_toArray, List.set_cons_zero, List.set_cons_succ])
      refine wpAnyM_done (by kernel_rfl) ?_ _
      have O6 := O5b
      go_wp2_with fail
      refine wp_region_M (S := fun w' => w'.cell? ⟨nb, no + i * 4, none⟩ = some (.int .i64 xk) ∧ w'.cell? ⟨nb, no + i * 4 + 1, none⟩ = some (.int .i64 xf) ∧ w'.cell? ⟨nb, no + i * 4 + 2, none⟩ = some (.int .i64 xt) ∧ w'.cell? ⟨nb, no + i * 4 + 3, none⟩ = some (.int .i64 xa)) (late := []) (by kernel_rfl) (KC.out _ B5b.out.drew) (fun hHeld => ?_)
      (try simp only [List.size_toArray, List.length_cons, List.length_nil, Nat.zero_add, Nat.reduceAdd, Array.replicate, List.replicate])
      refine wpAnyM_take (i := 0) (oi := ⟨_, _, _, _, _, _⟩) (v := ?_) rfl (by kernel_rfl) (by kernel_rfl) (by kernel_rfl) (by kernel_rfl) (fun _ _ _ h => h) (Or.inl ⟨by rfl, ?_⟩) hHeld ?_
      rotate_left
      · (intro w' hSw; (try dsimp only at hSw); go_simp; try (with_reducible rfl))
      (try simp only [Act.put, List.setIfInBounds_toArray, List.set_cons_zero, List.set_cons_succ])
      refine wpAnyM_take (i := 1) (oi := ⟨_, _, _, _, _, _⟩) (v := ?_) rfl (by kernel_rfl) (by kernel_rfl) (by kernel_rfl) (by kernel_rfl) (fun _ _ _ h => h) (Or.inl ⟨by rfl, ?_⟩) hHeld ?_
      rotate_left
      · (intro w' hSw; (try dsimp only at hSw); go_simp; try (with_reducible rfl))
      (try simp only [Act.put, List.setIfInBounds_toArray, List.set_cons_zero, List.set_cons_succ])
      refine wpAnyM_take (i := 2) (oi := ⟨_, _, _, _, _, _⟩) (v := ?_) rfl (by kernel_rfl) (by kernel_rfl) (by kernel_rfl) (by kernel_rfl) (fun _ _ _ h => h) (Or.inl ⟨by rfl, ?_⟩) hHeld ?_
      rotate_left
      · (intro w' hSw; (try dsimp only at hSw); go_simp; try (with_reducible rfl))
      (try simp only [Act.put, List.setIfInBounds_toArray, List.set_cons_zero, List.set_cons_succ])
      refine wpAnyM_take (i := 3) (oi := ⟨_, _, _, _, _, _⟩) (v := ?_) rfl (by kernel_rfl) (by kernel_rfl) (by kernel_rfl) (by kernel_rfl) (fun _ _ _ h => h) (Or.inl ⟨by rfl, ?_⟩) hHeld ?_
      rotate_left
      · (intro w' hSw; (try dsimp only at hSw); go_simp; try (with_reducible rfl))
      (try simp only [Act.put, List.setIfInBounds_toArray, List.set_cons_zero, List.set_cons_succ])
      refine wpAnyM_take (i := 4) (oi := ⟨_, _, _, _, _, _⟩) (v := ?_) rfl (by kernel_rfl) (by kernel_rfl) (by kernel_rfl) (by kernel_rfl) (fun _ _ _ h => h) (Or.inl ⟨by rfl, ?_⟩) hHeld ?_
      rotate_left
      · (intro w' hSw; (try dsimp only at hSw); go_simp; try (with_reducible rfl))
      (try simp only [Act.put, List.setIfInBounds_toArray, List.set_cons_zero, List.set_cons_succ])
      refine wpAnyM_take (i := 5) (oi := ⟨_, _, _, _, _, _⟩) (v := ?_) rfl (by kernel_rfl) (by kernel_rfl) (by kernel_rfl) (by kernel_rfl) (fun _ _ _ h => h) (Or.inl ⟨by rfl, ?_⟩) hHeld ?_
      rotate_left
      · (intro w' hSw; (try dsimp only at hSw); go_simp; try (with_reducible rfl))
      (try simp only [Act.put, List.setIfInBounds_toArray, List.set_cons_zero, List.set_cons_succ])
      refine wpAnyM_take (i := 6) (oi := ⟨_, _, _, _, _, _⟩) (v := ?_) rfl (by kernel_rfl) (by kernel_rfl) (by kernel_rfl) (by kernel_rfl) (fun _ _ _ h => h) (Or.inl ⟨by rfl, ?_⟩) hHeld ?_
      rotate_left
      · (intro w' hSw; (try dsimp only at hSw); go_simp; try (with_reducible rfl))
      (try simp only [Act.put, List.setIfInBounds_toArray, List.set_cons_zero, List.set_cons_succ])
      refine wpAnyM_take (i := 7) (oi := ⟨_, _, _, _, _, _⟩) (v := ?_) rfl (by kernel_rfl) (by kernel_rfl) (by kernel_rfl) (by kernel_rfl) (fun _ _ _ h => h) (Or.inl ⟨by rfl, ?_⟩) hHeld ?_
      rotate_left
      · (intro w' hSw; (try dsimp only at hSw); go_simp; try (with_reducible rfl))
      (try simp only [Act.put, List.setIfInBounds_toArray, List.set_cons_zero, List.set_cons_succ])
      refine wpAnyM_take (i := 9) (oi := ⟨_, _, _, _, _, _⟩) (v := ?_) rfl (by kernel_rfl) (by kernel_rfl) (by kernel_rfl) (by kernel_rfl) (fun _ _ _ h => h) (Or.inl ⟨by rfl, ?_⟩) hHeld ?_
      rotate_left
      · (intro w' hSw; (try dsimp only at hSw); go_simp; try (with_reducible rfl))
      (try simp only [Act.put, List.setIfInBounds_toArray, List.set_cons_zero, List.set_cons_succ])
      refine wpAnyM_take (i := 10) (oi := ⟨_, _, _, _, _, _⟩) (v := ?_) rfl (by kernel_rfl) (by kernel_rfl) (by kernel_rfl) (by kernel_rfl) (fun _ _ _ h => h) (Or.inl ⟨by rfl, ?_⟩) hHeld ?_
      rotate_left
      · (intro w' hSw; (try dsimp only at hSw); go_simp; try (with_reducible rfl))
      (try simp only [Act.put, List.setIfInBounds_toArray, List.set_cons_zero, List.set_cons_succ])
      refine wpAnyM_take (i := 11) (oi := ⟨_, _, _, _, _, _⟩) (v := ?_) rfl (by kernel_rfl) (by kernel_rfl) (by kernel_rfl) (by kernel_rfl) (fun _ _ _ h => h) (Or.inl ⟨by rfl, ?_⟩) hHeld ?_
      rotate_left
      · (intro w' hSw; (try dsimp only at hSw); go_simp; try (with_reducible rfl))
      (try simp only [Act.put, List.setIfInBounds_toArray, List.set_cons_zero, List.set_cons_succ])
      refine wpAnyM_take (i := 12) (oi := ⟨_, _, _, _, _, _⟩) (v := ?_) rfl (by kernel_rfl) (by kernel_rfl) (by kernel_rfl) (by kernel_rfl) (fun _ _ _ h => h) (Or.inl ⟨by rfl, ?_⟩) hHeld ?_
      rotate_left
      · (intro w' hSw; (try dsimp only at hSw); go_simp; try (with_reducible rfl))
      (try simp only [Act.put, List.setIfInBounds_toArray, List.set_cons_zero, List.set_cons_succ])
      refine wpAnyM_take (i := 13) (oi := ⟨_, _, _, _, _, _⟩) (v := ?_) rfl (by kernel_rfl) (by kernel_rfl) (by kernel_rfl) (by kernel_rfl) (fun _ _ _ h => h) (Or.inl ⟨by rfl, ?_⟩) hHeld ?_
      rotate_left
      · (intro w' hSw; (try dsimp only at hSw); go_simp; try (with_reducible rfl))
      (try simp only [Act.put, List.setIfInBounds_toArray, List.set_cons_zero, List.set_cons_succ])
      refine wpAnyM_take (i := 14) (oi := ⟨_, _, _, _, _, _⟩) (v := ?_) rfl (by kernel_rfl) (by kernel_rfl) (by kernel_rfl) (by kernel_rfl) (fun _ _ _ h => h) (Or.inl ⟨by rfl, ?_⟩) hHeld ?_
      rotate_left
      · (intro w' hSw; (try dsimp only at hSw); go_simp; try (with_reducible rfl))
      (try simp only [Act.put, List.setIfInBounds_toArray, List.set_cons_zero, List.set_cons_succ])
      refine wpAnyM_one (i := 8) (o := ⟨_, _, _, _, _, _⟩) (by kernel_rfl) rfl (fun K hK => ?_)
      go_simp
      go_at_call 47
      refine (HR6.out _ _ B5b.out.drew.size O6.out.drew).mono ?_
      rintro e w6a ⟨v6a, rfl, o6a, b6a⟩
      have B6a : Hid (Below w.heap.size w w6a) := (show Below _ _ _ from B5b.out.drew.trans b6a)
      have O6a := hide o6a
      obtain ⟨a6a, c6a, rfl⟩ := o6a.shape
      refine hK.out _ _ (KC.out _ B6a.out) (fun hHeld => ?_)
      clear hK K o6a b6a
      (try simp only [List.setIfInBounds_toArray, List.set_cons_zero, List.set_cons_succ])
      refine wpAnyM_one (i := 15) (o := ⟨_, _, _, _, _, _⟩) (by kernel_rfl) rfl (fun K hK => ?_)
      go_simp
      go_at_call 47
      refine (HT6.out _ _ B6a.out.size O6a.out).mono ?_
      rintro e w6b ⟨v6b, rfl, o6b, b6b⟩
      have B6b : Hid (Below w.heap.size w w6b) := (show Below _ _ _ from B6a.out.trans b6b)
      have O6b := hide o6b
      obtain ⟨a6b, c6b, rfl⟩ := o6b.shape
      refine hK.out _ _ (KC.out _ B6b.out) (fun hHeld => ?_)
      clear hK K o6b b6b
      (try simp only [List.setIfInBounds_toArray, List.set_cons_zero, List.set_cons_succ])
      refine wpAnyM_one (i := 16) (o := ⟨_, _, _, _, _, _⟩) (by kernel_rfl) rfl (fun K hK => ?_)
      go_simp
      refine hK.out _ _ (KC.out _ B6b.out) (fun hHeld => ?_)
      clear hK K
      (try simp only [List.setIfInBounds_toArray, List.set_cons_zero, List.set_cons_succ])
      refine wpAnyM_done (by kernel_rfl) ?_ _
      go_wp2_with fail
      go_roundg go
      case rel => exact ⟨i + 1, by go_num, by omega, by omega, (show OwnL _ _ _ _ _ _ _ by rw [HTS.out, ← HQ4.out]; exact O6b.out), B6b⟩
      case measure => omega
    · obtain rfl : i = L.length := by omega
      have bt : ¬ ((L.length : Nat) : Int) < (L.length : Int) := by omega
      have HF : Hid (be 4 L.length ++ (L.take L.length).flatMap wb = wrB L) := (show _ = _ by rw [List.take_of_length_le (Nat.le_refl _)]; rfl)
      rw [HF.out] at GO
      obtain ⟨va, vc, rfl⟩ := GO.out.shape
      go_wp2_with fail
      go_ret
      exact ⟨_, rfl, GO.out, GB.out⟩
end Go.Proofs.YtdoldohcimbdaaaGreat
