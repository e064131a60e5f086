/-
  The law ExprSums, walked.
-/
import Derived.Test.YtjdefmjcnpgjiaaDoorEKnown
namespace Go.Proofs.YtjdefmjcnpgjiaaDoor
open Go.RowKit

/-- An operator of two operands, of two leaves. -/
theorem chk2 (op : Int) (g : Nat) (h : 5 ≤ op ∧ op ≤ 13) : chk (mk2 op g (leaf 2 0) (leaf 4 0)) = 0 := by
  have h1 : ¬ (1 ≤ op ∧ op ≤ 4) := by omega
  have h2 : ¬ op = 14 := by omega
  simp [chk, mk2, leaf, formed_mk, size_mk, dep_mk, snd1, ari, h1, h2, h]
theorem cnt2 (op : Int) (g : Nat) (h : 5 ≤ op ∧ op ≤ 13) : (cnt (mk2 op g (leaf 2 0) (leaf 4 0)) 1 0).2 ≠ 71 := by
  rcases chk_of (mk2 op g (leaf 2 0) (leaf 4 0)) with ⟨h1, _⟩ | ⟨h1, _⟩ | ⟨_, h2⟩
  · rw [h1]; decide
  · rw [h1]; decide
  · rw [chk2 op g h] at h2; split at h2 <;> cases h2
theorem evl2 (r : Rc) (op : Int) (g : Nat) (h : 5 ≤ op ∧ op ≤ 13) : evl r (mk2 op g (leaf 2 0) (leaf 4 0)) = bth op r.k r.v := by
  have h1 : ¬ op = 1 := by omega
  have h2 : ¬ op = 2 := by omega
  have h3 : ¬ op = 3 := by omega
  have h4 : ¬ op = 4 := by omega
  have h5 : ¬ op = 14 := by omega
  simp [mk2, leaf, evl_mk, evl1, h1, h2, h3, h4, h5]
/-- Eval, where nothing is too large. -/
theorem eval_few {w : World} (e : Ex) (r : Rc) (hin : In w e) (hn : (cnt e 1 0).2 ≠ 71) (hc : chk e = 0) :
    Calls Tryd.prog 12 #[e.val, r.val] w fun v w' => v = .returned (.int .i64 (evl r e)) ∧ Below w.heap.size w w' := by
  have h := eval_of e r hin (fun w' h' => check_few e h' hn)
  rw [if_pos hc] at h
  exact h

/-- The boxes of the law's variables r, key, val. -/
structure SV (w : World) (R K V : Nat) (a b t : Int) : Prop where
  r : Tri w R (.int .i64 a) (.int .i64 t) (.int .i64 b)
  k : Tri w K (.int .i64 2) (.int .i64 0) (.slice none 0 0)
  v : Tri w V (.int .i64 4) (.int .i64 0) (.slice none 0 0)
theorem SV.below {w w' : World} {R K V : Nat} {a b t : Int} (h : SV w R K V a b t) (hb : Below w.heap.size w w') : SV w' R K V a b t := ⟨h.r.below hb, h.k.below hb, h.v.below hb⟩

set_option maxHeartbeats 4000000 in
set_option maxRecDepth 100000 in
theorem get_any {w : World} {R K V : Nat} {a b t : Int} (h : SV w R K V a b t) (op : Int) (ho : 5 ≤ op ∧ op ≤ 13) :
    Calls Tryd.prog 16 #[.int .i64 op, .pointer (some ⟨K, 0, none⟩), .pointer (some ⟨V, 0, none⟩), .pointer (some ⟨R, 0, none⟩)] w fun e w' => e = .returned (.int .i64 (bth op a b)) ∧ Below w.heap.size w w' := by
  have H := hide h
  obtain ⟨⟨r0, r1, r2⟩, ⟨k0, k1, k2⟩, ⟨v0, v1, v2⟩⟩ := h
  have hC := hide (two_any (w := w.drew) op (leaf 2 0) (leaf 4 0) (by omega) (by omega) (leaf_in (by omega) (by omega) (by omega) (by omega)) (leaf_in (by omega) (by omega) (by omega) (by omega)))
  go_enter Tryd.func16, Tryd.ntmps16
  go_wp2_with fail
  go_region_held3 (fun w' => w'.cell? ⟨R, 0, none⟩ = some (.int .i64 a) ∧ w'.cell? ⟨R, 1, none⟩ = some (.int .i64 t) ∧ w'.cell? ⟨R, 2, none⟩ = some (.int .i64 b) ∧ w'.cell? ⟨K, 0, none⟩ = some (.int .i64 2) ∧ w'.cell? ⟨K, 1, none⟩ = some (.int .i64 0) ∧ w'.cell? ⟨K, 2, none⟩ = some (.slice none 0 0) ∧
      w'.cell? ⟨V, 0, none⟩ = some (.int .i64 4) ∧ w'.cell? ⟨V, 1, none⟩ = some (.int .i64 0) ∧ w'.cell? ⟨V, 2, none⟩ = some (.slice none 0 0))
    (first | go_keep | exact ⟨r0, r1, r2, k0, k1, k2, v0, v1, v2⟩ | exact s2 | exact s3)
    (first
      | (go_at_call 17; refine hC.out.mono ?_; clear hC; rintro e w2 ⟨g, rfl, hin, _, _, hb⟩
         have hb1 : Below w.heap.size w w2 := ((Below.refl _ w).drew).trans hb
         have HB1 := hide hb1
         have hE := hide (eval_few (w := w2) (mk2 op g (leaf 2 0) (leaf 4 0)) ⟨a, t, b⟩ hin (cnt2 op g ho) (chk2 op g ho))
         have s2 : w2.cell? ⟨R, 0, none⟩ = some (.int .i64 a) ∧ w2.cell? ⟨R, 1, none⟩ = some (.int .i64 t) ∧ w2.cell? ⟨R, 2, none⟩ = some (.int .i64 b) ∧ w2.cell? ⟨K, 0, none⟩ = some (.int .i64 2) ∧ w2.cell? ⟨K, 1, none⟩ = some (.int .i64 0) ∧ w2.cell? ⟨K, 2, none⟩ = some (.slice none 0 0) ∧
      w2.cell? ⟨V, 0, none⟩ = some (.int .i64 4) ∧ w2.cell? ⟨V, 1, none⟩ = some (.int .i64 0) ∧ w2.cell? ⟨V, 2, none⟩ = some (.slice none 0 0) :=
           ⟨(H.out.r.below hb1).c0, (H.out.r.below hb1).c1, (H.out.r.below hb1).c2, (H.out.k.below hb1).c0, (H.out.k.below hb1).c1, (H.out.k.below hb1).c2, (H.out.v.below hb1).c0, (H.out.v.below hb1).c1, (H.out.v.below hb1).c2⟩
         clear hb hb1 hin)
      | (go_at_call 12; refine hE.out.mono ?_; clear hE; rintro e w3 ⟨rfl, hb⟩
         have hb1 : Below w.heap.size w w3 := HB1.out.trans (hb.mono HB1.out.size)
         have HB2 := hide hb1
         have s3 : w3.cell? ⟨R, 0, none⟩ = some (.int .i64 a) ∧ w3.cell? ⟨R, 1, none⟩ = some (.int .i64 t) ∧ w3.cell? ⟨R, 2, none⟩ = some (.int .i64 b) ∧ w3.cell? ⟨K, 0, none⟩ = some (.int .i64 2) ∧ w3.cell? ⟨K, 1, none⟩ = some (.int .i64 0) ∧ w3.cell? ⟨K, 2, none⟩ = some (.slice none 0 0) ∧
      w3.cell? ⟨V, 0, none⟩ = some (.int .i64 4) ∧ w3.cell? ⟨V, 1, none⟩ = some (.int .i64 0) ∧ w3.cell? ⟨V, 2, none⟩ = some (.slice none 0 0) :=
           ⟨(H.out.r.below hb1).c0, (H.out.r.below hb1).c1, (H.out.r.below hb1).c2, (H.out.k.below hb1).c0, (H.out.k.below hb1).c1, (H.out.k.below hb1).c2, (H.out.v.below hb1).c0, (H.out.v.below hb1).c1, (H.out.v.below hb1).c2⟩
         clear hb hb1))
  go_wp2_with fail
  go_ret
  exact ⟨ret_int (evl2 ⟨a, t, b⟩ op g ho), HB2.out⟩
theorem both8 (a b : Int) : bth 8 a b = min a b := by
  unfold bth
  rw [if_neg (by decide), if_neg (by decide), if_neg (by decide), if_pos rfl]
  by_cases h : a ≤ b
  · rw [if_pos h]; omega
  · rw [if_neg h]; omega
theorem both9 (a b : Int) : bth 9 a b = max a b := by
  unfold bth
  rw [if_neg (by decide), if_neg (by decide), if_neg (by decide), if_neg (by decide), if_pos rfl]
  by_cases h : a ≤ b
  · rw [if_pos h]; omega
  · rw [if_neg h]; omega
theorem get_val {w : World} {R K V : Nat} {a b t : Int} (h : SV w R K V a b t) (op : Int) (ho : 5 ≤ op ∧ op ≤ 13) (v : Int) (hv : bth op a b = v) :
    Calls Tryd.prog 16 #[.int .i64 op, .pointer (some ⟨K, 0, none⟩), .pointer (some ⟨V, 0, none⟩), .pointer (some ⟨R, 0, none⟩)] w fun e w' => e = .returned (.int .i64 v) ∧ Below w.heap.size w w' := by
  subst hv
  exact get_any h op ho
/-- The choice. -/
theorem chk3 (g : Nat) : chk (mk3 14 g (leaf 3 0) (leaf 2 0) (leaf 4 0)) = 0 := by
  simp [chk, mk3, leaf, formed_mk, size_mk, dep_mk, snd1, ari]
theorem cnt3 (g : Nat) : (cnt (mk3 14 g (leaf 3 0) (leaf 2 0) (leaf 4 0)) 1 0).2 ≠ 71 := by
  rcases chk_of (mk3 14 g (leaf 3 0) (leaf 2 0) (leaf 4 0)) with ⟨h1, _⟩ | ⟨h1, _⟩ | ⟨_, h2⟩
  · rw [h1]; decide
  · rw [h1]; decide
  · rw [chk3 g] at h2; split at h2 <;> cases h2
theorem evl3 (r : Rc) (g : Nat) : evl r (mk3 14 g (leaf 3 0) (leaf 2 0) (leaf 4 0)) = if r.t = 0 then r.v else r.k := by
  simp [mk3, leaf, evl_mk, evl1]
theorem eval3 {w : World} (g : Nat) (r : Rc) (v : Int) (hv : (if r.t = 0 then r.v else r.k) = v) (hin : In w (mk3 14 g (leaf 3 0) (leaf 2 0) (leaf 4 0))) :
    Calls Tryd.prog 12 #[.agg #[.int .i64 14, .int .i64 0, .slice (some ⟨g, 0, none⟩) 3 3], .agg #[.int .i64 r.k, .int .i64 r.t, .int .i64 r.v]] w fun e w' => e = .returned (.int .i64 v) ∧ Below w.heap.size w w' := by
  have h := eval_few _ r hin (cnt3 g) (chk3 g)
  rw [evl3, hv] at h
  exact h

set_option maxHeartbeats 16000000 in
set_option maxRecDepth 100000 in
theorem ExprSums_walk {w : World} (hg : Glob w) (a b t : Int) :
    Calls Tryd.prog 4 #[.int .i64 a, .int .i64 b, .int .i64 t] w fun e w' => e = .returned (.bool true) ∧ Below w.heap.size w w' := by
  have hkn := hide (known_any hg)
  go_enter Tryd.func4, Tryd.ntmps4
  go_wp2_with fail
  go_at_call 8
  refine hkn.out.mono ?_
  rintro e w2 ⟨rfl, b2⟩
  have B2 := hide b2
  clear b2 hkn hg
  go_upto_region 6 with fail
  have sv : SV ((((w2.alloc (.cells #[.int .i64 a, .int .i64 t, .int .i64 b] 26)).alloc (.cells #[.int .i64 2, .int .i64 0, .slice none 0 0] 24)).alloc (.cells #[.int .i64 4, .int .i64 0, .slice none 0 0] 24)).alloc (.cells #[.int .i64 3, .int .i64 0, .slice none 0 0] 24))
      w2.heap.size (w2.heap.size + 1) (w2.heap.size + 1 + 1) a b t := by
    have t0 := Tri.new w2 (.int .i64 a) (.int .i64 t) (.int .i64 b) 26
    have t1 := Tri.new (w2.alloc (.cells #[.int .i64 a, .int .i64 t, .int .i64 b] 26)) (.int .i64 2) (.int .i64 0) (.slice none 0 0) 24
    have t2 := Tri.new ((w2.alloc (.cells #[.int .i64 a, .int .i64 t, .int .i64 b] 26)).alloc (.cells #[.int .i64 2, .int .i64 0, .slice none 0 0] 24)) (.int .i64 4) (.int .i64 0) (.slice none 0 0) 24
    simp only [World.size_alloc] at t1 t2
    exact ⟨((t0.below (below1 _ _)).below (below1 _ _)).below (below1 _ _), (t1.below (below1 _ _)).below (below1 _ _), t2.below (below1 _ _)⟩
  have tt : Tri ((((w2.alloc (.cells #[.int .i64 a, .int .i64 t, .int .i64 b] 26)).alloc (.cells #[.int .i64 2, .int .i64 0, .slice none 0 0] 24)).alloc (.cells #[.int .i64 4, .int .i64 0, .slice none 0 0] 24)).alloc (.cells #[.int .i64 3, .int .i64 0, .slice none 0 0] 24))
      (w2.heap.size + 1 + 1 + 1) (.int .i64 3) (.int .i64 0) (.slice none 0 0) := by
    have t3 := Tri.new (((w2.alloc (.cells #[.int .i64 a, .int .i64 t, .int .i64 b] 26)).alloc (.cells #[.int .i64 2, .int .i64 0, .slice none 0 0] 24)).alloc (.cells #[.int .i64 4, .int .i64 0, .slice none 0 0] 24)) (.int .i64 3) (.int .i64 0) (.slice none 0 0) 24
    simp only [World.size_alloc] at t3
    exact t3
  have hS4 := hide sv
  have hT4 := hide tt
  have hb4 : Below w2.heap.size w2 ((((w2.alloc (.cells #[.int .i64 a, .int .i64 t, .int .i64 b] 26)).alloc (.cells #[.int .i64 2, .int .i64 0, .slice none 0 0] 24)).alloc (.cells #[.int .i64 4, .int .i64 0, .slice none 0 0] 24)).alloc (.cells #[.int .i64 3, .int .i64 0, .slice none 0 0] 24)) :=
    ((((Below.refl _ _).alloc (Nat.le_refl _) _).alloc (by simp) _).alloc (by simp; omega) _).alloc (by simp; omega) _
  have HB4 := hide (B2.out.trans (hb4.mono B2.out.size))
  clear sv tt hb4
  generalize (((w2.alloc (.cells #[.int .i64 a, .int .i64 t, .int .i64 b] 26)).alloc (.cells #[.int .i64 2, .int .i64 0, .slice none 0 0] 24)).alloc (.cells #[.int .i64 4, .int .i64 0, .slice none 0 0] 24)).alloc (.cells #[.int .i64 3, .int .i64 0, .slice none 0 0] 24) = w3 at *
  have L2 : Hid (∀ w, In w (leaf 2 0)) := fun w => leaf_in (by omega) (by omega) (by omega) (by omega)
  have L3 : Hid (∀ w, In w (leaf 3 0)) := fun w => leaf_in (by omega) (by omega) (by omega) (by omega)
  have L4 : Hid (∀ w, In w (leaf 4 0)) := fun w => leaf_in (by omega) (by omega) (by omega) (by omega)
  obtain ⟨LT, hLT⟩ : ∃ v, bth 12 a b = v := ⟨_, rfl⟩
  obtain ⟨EQ, hEQ⟩ : ∃ v, bth 13 a b = v := ⟨_, rfl⟩
  have HLT := hide hLT
  have HEQ := hide hEQ
  clear hLT hEQ
  go_upto_region 9 with (first
      | (go_at_call_of 16 (Value.int IntKind.i64 5); refine (get_val hS4.out 5 (by decide) (wrap64 (a + b)) (by rfl)).mono ?_; rintro e w15 ⟨rfl, hb⟩; have hS5 := hide (hS4.out.below hb); have hT5 := hide (hT4.out.below hb); have HB5 := hide (HB4.out.trans (hb.mono HB4.out.size)); clear hb)
      | (go_at_call_of 16 (Value.int IntKind.i64 6); refine (get_val hS5.out 6 (by decide) (wrap64 (a - b)) (by rfl)).mono ?_; rintro e w16 ⟨rfl, hb⟩; have hS6 := hide (hS5.out.below hb); have hT6 := hide (hT5.out.below hb); have HB6 := hide (HB5.out.trans (hb.mono HB5.out.size)); clear hb)
      | (go_at_call_of 16 (Value.int IntKind.i64 7); refine (get_val hS6.out 7 (by decide) (wrap64 (a * b)) (by rfl)).mono ?_; rintro e w17 ⟨rfl, hb⟩; have hS7 := hide (hS6.out.below hb); have hT7 := hide (hT6.out.below hb); have HB7 := hide (HB6.out.trans (hb.mono HB6.out.size)); clear hb)
      | (go_at_call_of 16 (Value.int IntKind.i64 8); refine (get_val hS7.out 8 (by decide) (min a b) (by exact both8 a b)).mono ?_; rintro e w18 ⟨rfl, hb⟩; have hS8 := hide (hS7.out.below hb); have hT8 := hide (hT7.out.below hb); have HB8 := hide (HB7.out.trans (hb.mono HB7.out.size)); clear hb)
      | (go_at_call_of 16 (Value.int IntKind.i64 9); refine (get_val hS8.out 9 (by decide) (max a b) (by exact both9 a b)).mono ?_; rintro e w19 ⟨rfl, hb⟩; have hS9 := hide (hS8.out.below hb); have hT9 := hide (hT8.out.below hb); have HB9 := hide (HB8.out.trans (hb.mono HB8.out.size)); clear hb)
      | (go_at_call_of 16 (Value.int IntKind.i64 10); refine (get_val hS9.out 10 (by decide) (bits .xor .i64 a b) (by rfl)).mono ?_; rintro e w20 ⟨rfl, hb⟩; have hS10 := hide (hS9.out.below hb); have hT10 := hide (hT9.out.below hb); have HB10 := hide (HB9.out.trans (hb.mono HB9.out.size)); clear hb)
      | (go_at_call_of 16 (Value.int IntKind.i64 11); refine (get_val hS10.out 11 (by decide) (bits .and .i64 a b) (by rfl)).mono ?_; rintro e w21 ⟨rfl, hb⟩; have hS11 := hide (hS10.out.below hb); have hT11 := hide (hT10.out.below hb); have HB11 := hide (HB10.out.trans (hb.mono HB10.out.size)); clear hb)
      | (go_at_call_of 16 (Value.int IntKind.i64 12); refine (get_val hS11.out 12 (by decide) (LT) (by exact HLT.out)).mono ?_; rintro e w22 ⟨rfl, hb⟩; have hS12 := hide (hS11.out.below hb); have hT12 := hide (hT11.out.below hb); have HB12 := hide (HB11.out.trans (hb.mono HB11.out.size)); clear hb)
      | (go_at_call_of 16 (Value.int IntKind.i64 13); refine (get_val hS12.out 13 (by decide) (EQ) (by exact HEQ.out)).mono ?_; rintro e w23 ⟨rfl, hb⟩; have hS13 := hide (hS12.out.below hb); have hT13 := hide (hT12.out.below hb); have HB13 := hide (HB12.out.trans (hb.mono HB12.out.size)); clear hb))
  have hlt : (LT = 1 ∧ a < b) ∨ (LT = 0 ∧ ¬ a < b) := by
    have h := HLT.out
    unfold bth at h
    rw [if_neg (by decide), if_neg (by decide), if_neg (by decide), if_neg (by decide), if_neg (by decide), if_neg (by decide), if_neg (by decide), if_pos rfl] at h
    by_cases hc : a < b
    · rw [if_pos hc] at h; exact .inl ⟨h.symm, hc⟩
    · rw [if_neg hc] at h; exact .inr ⟨h.symm, hc⟩
  have heq : (EQ = 1 ∧ a = b) ∨ (EQ = 0 ∧ ¬ a = b) := by
    have h := HEQ.out
    unfold bth at h
    rw [if_neg (by decide), if_neg (by decide), if_neg (by decide), if_neg (by decide), if_neg (by decide), if_neg (by decide), if_neg (by decide), if_neg (by decide), if_pos rfl] at h
    by_cases hc : a = b
    · rw [if_pos hc] at h; exact .inl ⟨h.symm, hc⟩
    · rw [if_neg hc] at h; exact .inr ⟨h.symm, hc⟩
  clear HLT HEQ hS5 hS6 hS7 hS8 hS9 hS10 hS11 hS12 hT5 hT6 hT7 hT8 hT9 hT10 hT11 hT12 HB5 HB6 HB7 HB8 HB9 HB10 HB11 HB12
  go_cut [112] from 83 to 112 (fun v wx => v = .bool false ∧ wx = w23)
  case first =>
    rcases hlt with ⟨rfl, h1⟩ | ⟨rfl, h1⟩
    · rcases heq with ⟨rfl, h2⟩ | ⟨rfl, h2⟩
      · omega
      · have g1 : (a == b) = false := by simp [h2]
        go_wp2_with fail
        go_meet
        exact ⟨rfl, rfl⟩
    · rcases heq with ⟨rfl, h2⟩ | ⟨rfl, h2⟩
      · have g1 : (a == b) = true := by simp [h2]
        clear h2
        go_wp2_with fail
        go_meet
        exact ⟨rfl, rfl⟩
      · have g1 : (a == b) = false := by simp [h2]
        go_wp2_with fail
        go_meet
        exact ⟨rfl, rfl⟩
  case rest =>
    obtain ⟨rfl, rfl⟩ := hcut
    obtain ⟨⟨r0, r1, r2⟩, ⟨k0, k1, k2⟩, ⟨v0, v1, v2⟩⟩ := hS13.out
    obtain ⟨t0, t1, t2⟩ := hT13.out
    have q0 := cell_lt r0
    have q1 := cell_lt t0
    clear hlt heq
    by_cases ht : t = 0
    · subst ht
      go_wp2_with (go_at_call 12; refine (eval3 wc.heap.size ⟨a, 0, b⟩ b (if_pos rfl) (mk3_in (by decide) (by decide) (L3.out _) (L2.out _) (L4.out _) (((below1 _ _).block wc.heap.size (by simp)).trans (heap_alloc_new wc _)))).mono ?_; rintro e w30 ⟨rfl, hb⟩; have HB30 := hide (hb))
      go_ret
      have hq := ((HB13.out.alloc HB13.out.size (.cells #[.int .i64 3, .int .i64 0, .slice none 0 0, .int .i64 2, .int .i64 0, .slice none 0 0, .int .i64 4, .int .i64 0, .slice none 0 0] 24)).alloc (HB13.out.alloc HB13.out.size _).size (.cells #[.int .i64 14, .int .i64 0, .slice (some ⟨wc.heap.size, 0, none⟩) 3 3] 24))
      exact ⟨ret_bool (by simp), hq.trans (HB30.out.mono hq.size)⟩
    · have ht1 : (t == 0) = false := by simp [ht]
      have ht2 : (t != 0) = true := by simp [ht]
      go_wp2_with (go_at_call 12; refine (eval3 wc.heap.size ⟨a, t, b⟩ a (if_neg ht) (mk3_in (by decide) (by decide) (L3.out _) (L2.out _) (L4.out _) (((below1 _ _).block wc.heap.size (by simp)).trans (heap_alloc_new wc _)))).mono ?_; rintro e w30 ⟨rfl, hb⟩; have HB30 := hide (hb))
      go_ret
      have hq := ((HB13.out.alloc HB13.out.size (.cells #[.int .i64 3, .int .i64 0, .slice none 0 0, .int .i64 2, .int .i64 0, .slice none 0 0, .int .i64 4, .int .i64 0, .slice none 0 0] 24)).alloc (HB13.out.alloc HB13.out.size _).size (.cells #[.int .i64 14, .int .i64 0, .slice (some ⟨wc.heap.size, 0, none⟩) 3 3] 24))
      exact ⟨ret_bool (by simp), hq.trans (HB30.out.mono hq.size)⟩
end Go.Proofs.YtjdefmjcnpgjiaaDoor
