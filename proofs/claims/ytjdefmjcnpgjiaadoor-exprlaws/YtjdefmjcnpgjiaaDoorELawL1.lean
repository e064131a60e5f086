/-
  The closure same of ExprLaws.
-/
import Derived.Test.YtjdefmjcnpgjiaaDoorELawT
import Derived.Test.YtjdefmjcnpgjiaaDoorELawS
import Derived.Test.YtjdefmjcnpgjiaaDoorEHold
namespace Go.Proofs.YtjdefmjcnpgjiaaDoor
open Go.RowKit

set_option maxHeartbeats 8000000 in
set_option maxRecDepth 100000 in
theorem same21 {w : World} {R : Nat} (r : Rc) (x y : Ex) (hx : In w x) (hy : In w y) (hR : Tri w R (.int .i64 r.k) (.int .i64 r.t) (.int .i64 r.v)) (sx : size x ≤ 100000 ∧ dep x ≤ 100000) (sy : size y ≤ 100000 ∧ dep y ≤ 100000)
    (hv : chk x = 0 → chk y = 0 → evl r x = evl r y) :
    Calls Tryd.prog 21 #[x.val, y.val, .pointer (some ⟨R, 0, none⟩)] w fun e w' => e = .returned (.bool true) ∧ Below w.heap.size w w' := by
  have hbb : Below w.heap.size w ((w.alloc (.cells #[.int .i64 x.op, .int .i64 x.n, .slice x.a x.l.length x.c] 24)).alloc (.cells #[.int .i64 y.op, .int .i64 y.n, .slice y.a y.l.length y.c] 24)) :=
    ((Below.refl _ _).alloc (Nat.le_refl _) _).alloc (by simp) _
  have TX : Hid (Tri ((w.alloc (.cells #[.int .i64 x.op, .int .i64 x.n, .slice x.a x.l.length x.c] 24)).alloc (.cells #[.int .i64 y.op, .int .i64 y.n, .slice y.a y.l.length y.c] 24)) w.heap.size (.int .i64 x.op) (.int .i64 x.n) (.slice x.a x.l.length x.c)) :=
    (Tri.new w _ _ _ 24).below ((Below.refl _ _).alloc (Nat.le_refl _) _)
  have t3 : Tri ((w.alloc (.cells #[.int .i64 x.op, .int .i64 x.n, .slice x.a x.l.length x.c] 24)).alloc (.cells #[.int .i64 y.op, .int .i64 y.n, .slice y.a y.l.length y.c] 24)) (w.heap.size + 1) (.int .i64 y.op) (.int .i64 y.n) (.slice y.a y.l.length y.c) := by
    have := Tri.new (w.alloc (.cells #[.int .i64 x.op, .int .i64 x.n, .slice x.a x.l.length x.c] 24)) (.int .i64 y.op) (.int .i64 y.n) (.slice y.a y.l.length y.c) 24
    simpa using this
  have TY := hide t3
  have TR := hide (hR.below hbb)
  have IX := hide (hx.below hbb)
  have IY := hide (hy.below hbb)
  have HB := hide hbb
  have hCx : Hid (∀ w', In w' x → Calls Tryd.prog 10 #[x.val] w' fun e w'' => e = .returned (.int .i64 (chk x)) ∧ Below w'.heap.size w' w'') := fun w' h => rCheck_any x h sx.1 sx.2
  have hCy : Hid (∀ w', In w' y → Calls Tryd.prog 10 #[y.val] w' fun e w'' => e = .returned (.int .i64 (chk y)) ∧ Below w'.heap.size w' w'') := fun w' h => rCheck_any y h sy.1 sy.2
  have hEx : chk x = 0 → Hid (∀ w', In w' x → Calls Tryd.prog 12 #[x.val, r.val] w' fun e w'' => e = .returned (.int .i64 (evl r x)) ∧ Below w'.heap.size w' w'') := fun h w' h' => eval_few x r h' (cnt_of_chk h) h
  have hEy : chk y = 0 → Hid (∀ w', In w' y → Calls Tryd.prog 12 #[y.val, r.val] w' fun e w'' => e = .returned (.int .i64 (evl r y)) ∧ Below w'.heap.size w' w'') := fun h w' h' => eval_few y r h' (cnt_of_chk h) h
  clear hbb t3 hx hy hR sx sy
  obtain ⟨xo, xn, xa, xc, xl⟩ := x
  obtain ⟨yo, yn, ya, yc, yl⟩ := y
  obtain ⟨rk, rt, rv⟩ := r
  unfold Ex.val Rc.val at *
  simp only at *
  generalize chk ⟨xo, xn, xa, xc, xl⟩ = cx at *
  generalize chk ⟨yo, yn, ya, yc, yl⟩ = cy at *
  generalize evl ⟨rk, rt, rv⟩ ⟨xo, xn, xa, xc, xl⟩ = vx at *
  generalize evl ⟨rk, rt, rv⟩ ⟨yo, yn, ya, yc, yl⟩ = vy at *
  by_cases h1 : cx = 0
  rotate_left
  · have g1 : (cx == 0) = false := by simp [h1]
    have g2 : (cx != 0) = true := by simp [h1]
    clear hEx hEy hv
    go_enter Tryd.func21, Tryd.ntmps21
    go_wp2_with fail
    generalize (w.alloc (.cells #[.int .i64 xo, .int .i64 xn, .slice xa xl.length xc] 24)).alloc (.cells #[.int .i64 yo, .int .i64 yn, .slice ya yl.length yc] 24) = w0 at *
    have hHeld : w0.drew.cell? ⟨w.heap.size, 0, none⟩ = some (.int .i64 xo) ∧ w0.drew.cell? ⟨w.heap.size, 1, none⟩ = some (.int .i64 xn) ∧ w0.drew.cell? ⟨w.heap.size, 2, none⟩ = some (.slice xa xl.length xc) ∧ w0.drew.cell? ⟨w.heap.size + 1, 0, none⟩ = some (.int .i64 yo) ∧ w0.drew.cell? ⟨w.heap.size + 1, 1, none⟩ = some (.int .i64 yn) ∧ w0.drew.cell? ⟨w.heap.size + 1, 2, none⟩ = some (.slice ya yl.length yc) ∧ w0.drew.cell? ⟨R, 0, none⟩ = some (.int .i64 rk) ∧ w0.drew.cell? ⟨R, 1, none⟩ = some (.int .i64 rt) ∧ w0.drew.cell? ⟨R, 2, none⟩ = some (.int .i64 rv) := ⟨(TX.out.below (Below.refl _ _)).c0, (TX.out.below (Below.refl _ _)).c1, (TX.out.below (Below.refl _ _)).c2, (TY.out.below (Below.refl _ _)).c0, (TY.out.below (Below.refl _ _)).c1, (TY.out.below (Below.refl _ _)).c2, (TR.out.below (Below.refl _ _)).c0, (TR.out.below (Below.refl _ _)).c1, (TR.out.below (Below.refl _ _)).c2⟩
    have B1 : Hid (Below w0.heap.size w0 w0.drew) := (Below.refl _ w0).drew
    have I1 : Hid (In w0.drew ⟨xo, xn, xa, xc, xl⟩ ∧ In w0.drew ⟨yo, yn, ya, yc, yl⟩) := ⟨IX.out.drew, IY.out.drew⟩
    refine wp_region_M (S := fun w' => w'.cell? ⟨w.heap.size, 0, none⟩ = some (.int .i64 xo) ∧ w'.cell? ⟨w.heap.size, 1, none⟩ = some (.int .i64 xn) ∧ w'.cell? ⟨w.heap.size, 2, none⟩ = some (.slice xa xl.length xc) ∧ w'.cell? ⟨w.heap.size + 1, 0, none⟩ = some (.int .i64 yo) ∧ w'.cell? ⟨w.heap.size + 1, 1, none⟩ = some (.int .i64 yn) ∧ w'.cell? ⟨w.heap.size + 1, 2, none⟩ = some (.slice ya yl.length yc) ∧ w'.cell? ⟨R, 0, none⟩ = some (.int .i64 rk) ∧ w'.cell? ⟨R, 1, none⟩ = some (.int .i64 rt) ∧ w'.cell? ⟨R, 2, none⟩ = some (.int .i64 rv)) (late := []) (by kernel_rfl) hHeld (fun hHeld => ?_)
    (try simp only [List.size_toArray, List.length_cons, List.length_nil, Nat.zero_add, Nat.reduceAdd, Array.replicate, List.replicate])
    refine wpAnyM_take (i := 0) (oi := ⟨_, _, _, _, _, _⟩) (v := ?_) rfl (by kernel_rfl) (by kernel_rfl) (by kernel_rfl) (by kernel_rfl) (fun _ _ _ h => h) (Or.inl ⟨by rfl, ?_⟩) hHeld ?_
    rotate_left
    · (intro w' hSw; (try dsimp only at hSw); go_simp; try (with_reducible rfl))
    (try simp only [Act.put, List.setIfInBounds_toArray, List.set_cons_zero, List.set_cons_succ])
    refine wpAnyM_one (i := 1) (o := ⟨_, _, _, _, _, _⟩) (by kernel_rfl) rfl (fun K hK => ?_)
    go_simp
    go_at_call 10
    refine (hCx.out _ I1.out.1).mono ?_
    rintro e w2 ⟨rfl, hb⟩
    have hb1 := B1.out.trans (hb.mono B1.out.size)
    have B2 := hide hb1
    have I2 := hide (And.intro (I1.out.1.below hb) (I1.out.2.below hb))
    refine hK.out _ _ ⟨(TX.out.below hb1).c0, (TX.out.below hb1).c1, (TX.out.below hb1).c2, (TY.out.below hb1).c0, (TY.out.below hb1).c1, (TY.out.below hb1).c2, (TR.out.below hb1).c0, (TR.out.below hb1).c1, (TR.out.below hb1).c2⟩ (fun hHeld => ?_)
    clear hK K hb hb1
    (try simp only [List.setIfInBounds_toArray, List.set_cons_zero, List.set_cons_succ])
    refine wpAnyM_take (i := 2) (oi := ⟨_, _, _, _, _, _⟩) (v := ?_) rfl (by kernel_rfl) (by kernel_rfl) (by kernel_rfl) (by kernel_rfl) (fun _ _ _ h => h) (Or.inl ⟨by rfl, ?_⟩) hHeld ?_
    rotate_left
    · (intro w' hSw; (try dsimp only at hSw); go_simp; try (with_reducible rfl))
    (try simp only [Act.put, List.setIfInBounds_toArray, List.set_cons_zero, List.set_cons_succ])
    refine wpAnyM_take (i := 3) (oi := ⟨_, _, _, _, _, _⟩) (v := ?_) rfl (by kernel_rfl) (by kernel_rfl) (by kernel_rfl) (by kernel_rfl) (fun _ _ _ h => h) (Or.inl ⟨by rfl, ?_⟩) hHeld ?_
    rotate_left
    · (intro w' hSw; (try dsimp only at hSw); go_simp; try (with_reducible rfl))
    (try simp only [Act.put, List.setIfInBounds_toArray, List.set_cons_zero, List.set_cons_succ])
    refine wpAnyM_take (i := 4) (oi := ⟨_, _, _, _, _, _⟩) (v := undef) rfl (by kernel_rfl) (by kernel_rfl) (by kernel_rfl) (by kernel_rfl) (fun _ _ _ h => h) (Or.inr ⟨by rfl, rfl⟩) hHeld ?_
    (try simp only [Act.put, List.setIfInBounds_toArray, List.set_cons_zero, List.set_cons_succ])
    refine wpAnyM_take (i := 5) (oi := ⟨_, _, _, _, _, _⟩) (v := undef) rfl (by kernel_rfl) (by kernel_rfl) (by kernel_rfl) (by kernel_rfl) (fun _ _ _ h => h) (Or.inr ⟨by rfl, rfl⟩) hHeld ?_
    (try simp only [Act.put, List.setIfInBounds_toArray, List.set_cons_zero, List.set_cons_succ])
    refine wpAnyM_take (i := 6) (oi := ⟨_, _, _, _, _, _⟩) (v := undef) rfl (by kernel_rfl) (by kernel_rfl) (by kernel_rfl) (by kernel_rfl) (fun _ _ _ h => h) (Or.inr ⟨by rfl, rfl⟩) hHeld ?_
    (try simp only [Act.put, List.setIfInBounds_toArray, List.set_cons_zero, List.set_cons_succ])
    refine wpAnyM_take (i := 7) (oi := ⟨_, _, _, _, _, _⟩) (v := ?_) rfl (by kernel_rfl) (by kernel_rfl) (by kernel_rfl) (by kernel_rfl) (fun _ _ _ h => h) (Or.inl ⟨by rfl, ?_⟩) hHeld ?_
    rotate_left
    · (intro w' hSw; (try dsimp only at hSw); go_simp; try (with_reducible rfl))
    (try simp only [Act.put, List.setIfInBounds_toArray, List.set_cons_zero, List.set_cons_succ])
    refine wpAnyM_take (i := 8) (oi := ⟨_, _, _, _, _, _⟩) (v := ?_) rfl (by kernel_rfl) (by kernel_rfl) (by kernel_rfl) (by kernel_rfl) (fun _ _ _ h => h) (Or.inl ⟨by rfl, ?_⟩) hHeld ?_
    rotate_left
    · (intro w' hSw; (try dsimp only at hSw); go_simp; try (with_reducible rfl))
    (try simp only [Act.put, List.setIfInBounds_toArray, List.set_cons_zero, List.set_cons_succ])
    refine wpAnyM_take (i := 9) (oi := ⟨_, _, _, _, _, _⟩) (v := undef) rfl (by kernel_rfl) (by kernel_rfl) (by kernel_rfl) (by kernel_rfl) (fun _ _ _ h => h) (Or.inr ⟨by rfl, rfl⟩) hHeld ?_
    (try simp only [Act.put, List.setIfInBounds_toArray, List.set_cons_zero, List.set_cons_succ])
    refine wpAnyM_take (i := 10) (oi := ⟨_, _, _, _, _, _⟩) (v := undef) rfl (by kernel_rfl) (by kernel_rfl) (by kernel_rfl) (by kernel_rfl) (fun _ _ _ h => h) (Or.inr ⟨by rfl, rfl⟩) hHeld ?_
    (try simp only [Act.put, List.setIfInBounds_toArray, List.set_cons_zero, List.set_cons_succ])
    refine wpAnyM_take (i := 11) (oi := ⟨_, _, _, _, _, _⟩) (v := undef) rfl (by kernel_rfl) (by kernel_rfl) (by kernel_rfl) (by kernel_rfl) (fun _ _ _ h => h) (Or.inr ⟨by rfl, rfl⟩) hHeld ?_
    (try simp only [Act.put, List.setIfInBounds_toArray, List.set_cons_zero, List.set_cons_succ])
    refine wpAnyM_take (i := 12) (oi := ⟨_, _, _, _, _, _⟩) (v := undef) rfl (by kernel_rfl) (by kernel_rfl) (by kernel_rfl) (by kernel_rfl) (fun _ _ _ h => h) (Or.inr ⟨by rfl, rfl⟩) hHeld ?_
    (try simp only [Act.put, List.setIfInBounds_toArray, List.set_cons_zero, List.set_cons_succ])
    refine wpAnyM_take (i := 13) (oi := ⟨_, _, _, _, _, _⟩) (v := undef) rfl (by kernel_rfl) (by kernel_rfl) (by kernel_rfl) (by kernel_rfl) (fun _ _ _ h => h) (Or.inr ⟨by rfl, rfl⟩) hHeld ?_
    (try simp only [Act.put, List.setIfInBounds_toArray, List.set_cons_zero, List.set_cons_succ])
    refine wpAnyM_take (i := 14) (oi := ⟨_, _, _, _, _, _⟩) (v := undef) rfl (by kernel_rfl) (by kernel_rfl) (by kernel_rfl) (by kernel_rfl) (fun _ _ _ h => h) (Or.inr ⟨by rfl, rfl⟩) hHeld ?_
    (try simp only [Act.put, List.setIfInBounds_toArray, List.set_cons_zero, List.set_cons_succ])
    refine wpAnyM_take (i := 15) (oi := ⟨_, _, _, _, _, _⟩) (v := undef) rfl (by kernel_rfl) (by kernel_rfl) (by kernel_rfl) (by kernel_rfl) (fun _ _ _ h => h) (Or.inr ⟨by rfl, rfl⟩) hHeld ?_
    (try simp only [Act.put, List.setIfInBounds_toArray, List.set_cons_zero, List.set_cons_succ])
    refine wpAnyM_take (i := 16) (oi := ⟨_, _, _, _, _, _⟩) (v := ?_) rfl (by kernel_rfl) (by kernel_rfl) (by kernel_rfl) (by kernel_rfl) (fun _ _ _ h => h) (Or.inl ⟨by rfl, ?_⟩) hHeld ?_
    rotate_left
    · (intro w' hSw; (try dsimp only at hSw); go_simp; try (with_reducible rfl))
    (try simp only [Act.put, List.setIfInBounds_toArray, List.set_cons_zero, List.set_cons_succ])
    refine wpAnyM_take (i := 17) (oi := ⟨_, _, _, _, _, _⟩) (v := ?_) rfl (by kernel_rfl) (by kernel_rfl) (by kernel_rfl) (by kernel_rfl) (fun _ _ _ h => h) (Or.inl ⟨by rfl, ?_⟩) hHeld ?_
    rotate_left
    · (intro w' hSw; (try dsimp only at hSw); go_simp; try (with_reducible rfl))
    (try simp only [Act.put, List.setIfInBounds_toArray, List.set_cons_zero, List.set_cons_succ])
    refine wpAnyM_done (by kernel_rfl) ?_ _
    go_wp2_with fail
    go_ret
    exact ⟨rfl, HB.out.trans (B2.out.mono HB.out.size)⟩
  replace hEx := hEx h1
  by_cases h2 : cy = 0
  rotate_left
  · have g1 : (cy == 0) = false := by simp [h2]
    have g2 : (cy != 0) = true := by simp [h2]
    subst h1
    clear hEx hEy hv
    go_enter Tryd.func21, Tryd.ntmps21
    go_wp2_with fail
    generalize (w.alloc (.cells #[.int .i64 xo, .int .i64 xn, .slice xa xl.length xc] 24)).alloc (.cells #[.int .i64 yo, .int .i64 yn, .slice ya yl.length yc] 24) = w0 at *
    have hHeld : w0.drew.cell? ⟨w.heap.size, 0, none⟩ = some (.int .i64 xo) ∧ w0.drew.cell? ⟨w.heap.size, 1, none⟩ = some (.int .i64 xn) ∧ w0.drew.cell? ⟨w.heap.size, 2, none⟩ = some (.slice xa xl.length xc) ∧ w0.drew.cell? ⟨w.heap.size + 1, 0, none⟩ = some (.int .i64 yo) ∧ w0.drew.cell? ⟨w.heap.size + 1, 1, none⟩ = some (.int .i64 yn) ∧ w0.drew.cell? ⟨w.heap.size + 1, 2, none⟩ = some (.slice ya yl.length yc) ∧ w0.drew.cell? ⟨R, 0, none⟩ = some (.int .i64 rk) ∧ w0.drew.cell? ⟨R, 1, none⟩ = some (.int .i64 rt) ∧ w0.drew.cell? ⟨R, 2, none⟩ = some (.int .i64 rv) := ⟨(TX.out.below (Below.refl _ _)).c0, (TX.out.below (Below.refl _ _)).c1, (TX.out.below (Below.refl _ _)).c2, (TY.out.below (Below.refl _ _)).c0, (TY.out.below (Below.refl _ _)).c1, (TY.out.below (Below.refl _ _)).c2, (TR.out.below (Below.refl _ _)).c0, (TR.out.below (Below.refl _ _)).c1, (TR.out.below (Below.refl _ _)).c2⟩
    have B1 : Hid (Below w0.heap.size w0 w0.drew) := (Below.refl _ w0).drew
    have I1 : Hid (In w0.drew ⟨xo, xn, xa, xc, xl⟩ ∧ In w0.drew ⟨yo, yn, ya, yc, yl⟩) := ⟨IX.out.drew, IY.out.drew⟩
    refine wp_region_M (S := fun w' => w'.cell? ⟨w.heap.size, 0, none⟩ = some (.int .i64 xo) ∧ w'.cell? ⟨w.heap.size, 1, none⟩ = some (.int .i64 xn) ∧ w'.cell? ⟨w.heap.size, 2, none⟩ = some (.slice xa xl.length xc) ∧ w'.cell? ⟨w.heap.size + 1, 0, none⟩ = some (.int .i64 yo) ∧ w'.cell? ⟨w.heap.size + 1, 1, none⟩ = some (.int .i64 yn) ∧ w'.cell? ⟨w.heap.size + 1, 2, none⟩ = some (.slice ya yl.length yc) ∧ w'.cell? ⟨R, 0, none⟩ = some (.int .i64 rk) ∧ w'.cell? ⟨R, 1, none⟩ = some (.int .i64 rt) ∧ w'.cell? ⟨R, 2, none⟩ = some (.int .i64 rv)) (late := []) (by kernel_rfl) hHeld (fun hHeld => ?_)
    (try simp only [List.size_toArray, List.length_cons, List.length_nil, Nat.zero_add, Nat.reduceAdd, Array.replicate, List.replicate])
    refine wpAnyM_take (i := 0) (oi := ⟨_, _, _, _, _, _⟩) (v := ?_) rfl (by kernel_rfl) (by kernel_rfl) (by kernel_rfl) (by kernel_rfl) (fun _ _ _ h => h) (Or.inl ⟨by rfl, ?_⟩) hHeld ?_
    rotate_left
    · (intro w' hSw; (try dsimp only at hSw); go_simp; try (with_reducible rfl))
    (try simp only [Act.put, List.setIfInBounds_toArray, List.set_cons_zero, List.set_cons_succ])
    refine wpAnyM_one (i := 1) (o := ⟨_, _, _, _, _, _⟩) (by kernel_rfl) rfl (fun K hK => ?_)
    go_simp
    go_at_call 10
    refine (hCx.out _ I1.out.1).mono ?_
    rintro e w2 ⟨rfl, hb⟩
    have hb1 := B1.out.trans (hb.mono B1.out.size)
    have B2 := hide hb1
    have I2 := hide (And.intro (I1.out.1.below hb) (I1.out.2.below hb))
    refine hK.out _ _ ⟨(TX.out.below hb1).c0, (TX.out.below hb1).c1, (TX.out.below hb1).c2, (TY.out.below hb1).c0, (TY.out.below hb1).c1, (TY.out.below hb1).c2, (TR.out.below hb1).c0, (TR.out.below hb1).c1, (TR.out.below hb1).c2⟩ (fun hHeld => ?_)
    clear hK K hb hb1
    (try simp only [List.setIfInBounds_toArray, List.set_cons_zero, List.set_cons_succ])
    refine wpAnyM_take (i := 2) (oi := ⟨_, _, _, _, _, _⟩) (v := ?_) rfl (by kernel_rfl) (by kernel_rfl) (by kernel_rfl) (by kernel_rfl) (fun _ _ _ h => h) (Or.inl ⟨by rfl, ?_⟩) hHeld ?_
    rotate_left
    · (intro w' hSw; (try dsimp only at hSw); go_simp; try (with_reducible rfl))
    (try simp only [Act.put, List.setIfInBounds_toArray, List.set_cons_zero, List.set_cons_succ])
    refine wpAnyM_take (i := 3) (oi := ⟨_, _, _, _, _, _⟩) (v := ?_) rfl (by kernel_rfl) (by kernel_rfl) (by kernel_rfl) (by kernel_rfl) (fun _ _ _ h => h) (Or.inl ⟨by rfl, ?_⟩) hHeld ?_
    rotate_left
    · (intro w' hSw; (try dsimp only at hSw); go_simp; try (with_reducible rfl))
    (try simp only [Act.put, List.setIfInBounds_toArray, List.set_cons_zero, List.set_cons_succ])
    refine wpAnyM_take (i := 4) (oi := ⟨_, _, _, _, _, _⟩) (v := ?_) rfl (by kernel_rfl) (by kernel_rfl) (by kernel_rfl) (by kernel_rfl) (fun _ _ _ h => h) (Or.inl ⟨by rfl, ?_⟩) hHeld ?_
    rotate_left
    · (intro w' hSw; (try dsimp only at hSw); go_simp; try (with_reducible rfl))
    (try simp only [Act.put, List.setIfInBounds_toArray, List.set_cons_zero, List.set_cons_succ])
    refine wpAnyM_one (i := 5) (o := ⟨_, _, _, _, _, _⟩) (by kernel_rfl) rfl (fun K hK => ?_)
    go_simp
    go_at_call 10
    refine (hCy.out _ I2.out.2).mono ?_
    rintro e w3 ⟨rfl, hb⟩
    have hb1 := B2.out.trans (hb.mono B2.out.size)
    have B3 := hide hb1
    have I3 := hide (And.intro (I2.out.1.below hb) (I2.out.2.below hb))
    refine hK.out _ _ ⟨(TX.out.below hb1).c0, (TX.out.below hb1).c1, (TX.out.below hb1).c2, (TY.out.below hb1).c0, (TY.out.below hb1).c1, (TY.out.below hb1).c2, (TR.out.below hb1).c0, (TR.out.below hb1).c1, (TR.out.below hb1).c2⟩ (fun hHeld => ?_)
    clear hK K hb hb1
    (try simp only [List.setIfInBounds_toArray, List.set_cons_zero, List.set_cons_succ])
    refine wpAnyM_take (i := 6) (oi := ⟨_, _, _, _, _, _⟩) (v := ?_) rfl (by kernel_rfl) (by kernel_rfl) (by kernel_rfl) (by kernel_rfl) (fun _ _ _ h => h) (Or.inl ⟨by rfl, ?_⟩) hHeld ?_
    rotate_left
    · (intro w' hSw; (try dsimp only at hSw); go_simp; try (with_reducible rfl))
    (try simp only [Act.put, List.setIfInBounds_toArray, List.set_cons_zero, List.set_cons_succ])
    refine wpAnyM_take (i := 7) (oi := ⟨_, _, _, _, _, _⟩) (v := ?_) rfl (by kernel_rfl) (by kernel_rfl) (by kernel_rfl) (by kernel_rfl) (fun _ _ _ h => h) (Or.inl ⟨by rfl, ?_⟩) hHeld ?_
    rotate_left
    · (intro w' hSw; (try dsimp only at hSw); go_simp; try (with_reducible rfl))
    (try simp only [Act.put, List.setIfInBounds_toArray, List.set_cons_zero, List.set_cons_succ])
    refine wpAnyM_take (i := 8) (oi := ⟨_, _, _, _, _, _⟩) (v := ?_) rfl (by kernel_rfl) (by kernel_rfl) (by kernel_rfl) (by kernel_rfl) (fun _ _ _ h => h) (Or.inl ⟨by rfl, ?_⟩) hHeld ?_
    rotate_left
    · (intro w' hSw; (try dsimp only at hSw); go_simp; try (with_reducible rfl))
    (try simp only [Act.put, List.setIfInBounds_toArray, List.set_cons_zero, List.set_cons_succ])
    refine wpAnyM_take (i := 9) (oi := ⟨_, _, _, _, _, _⟩) (v := undef) rfl (by kernel_rfl) (by kernel_rfl) (by kernel_rfl) (by kernel_rfl) (fun _ _ _ h => h) (Or.inr ⟨by rfl, rfl⟩) hHeld ?_
    (try simp only [Act.put, List.setIfInBounds_toArray, List.set_cons_zero, List.set_cons_succ])
    refine wpAnyM_take (i := 10) (oi := ⟨_, _, _, _, _, _⟩) (v := undef) rfl (by kernel_rfl) (by kernel_rfl) (by kernel_rfl) (by kernel_rfl) (fun _ _ _ h => h) (Or.inr ⟨by rfl, rfl⟩) hHeld ?_
    (try simp only [Act.put, List.setIfInBounds_toArray, List.set_cons_zero, List.set_cons_succ])
    refine wpAnyM_take (i := 11) (oi := ⟨_, _, _, _, _, _⟩) (v := undef) rfl (by kernel_rfl) (by kernel_rfl) (by kernel_rfl) (by kernel_rfl) (fun _ _ _ h => h) (Or.inr ⟨by rfl, rfl⟩) hHeld ?_
    (try simp only [Act.put, List.setIfInBounds_toArray, List.set_cons_zero, List.set_cons_succ])
    refine wpAnyM_take (i := 12) (oi := ⟨_, _, _, _, _, _⟩) (v := undef) rfl (by kernel_rfl) (by kernel_rfl) (by kernel_rfl) (by kernel_rfl) (fun _ _ _ h => h) (Or.inr ⟨by rfl, rfl⟩) hHeld ?_
    (try simp only [Act.put, List.setIfInBounds_toArray, List.set_cons_zero, List.set_cons_succ])
    refine wpAnyM_take (i := 13) (oi := ⟨_, _, _, _, _, _⟩) (v := undef) rfl (by kernel_rfl) (by kernel_rfl) (by kernel_rfl) (by kernel_rfl) (fun _ _ _ h => h) (Or.inr ⟨by rfl, rfl⟩) hHeld ?_
    (try simp only [Act.put, List.setIfInBounds_toArray, List.set_cons_zero, List.set_cons_succ])
    refine wpAnyM_take (i := 14) (oi := ⟨_, _, _, _, _, _⟩) (v := undef) rfl (by kernel_rfl) (by kernel_rfl) (by kernel_rfl) (by kernel_rfl) (fun _ _ _ h => h) (Or.inr ⟨by rfl, rfl⟩) hHeld ?_
    (try simp only [Act.put, List.setIfInBounds_toArray, List.set_cons_zero, List.set_cons_succ])
    refine wpAnyM_take (i := 15) (oi := ⟨_, _, _, _, _, _⟩) (v := undef) rfl (by kernel_rfl) (by kernel_rfl) (by kernel_rfl) (by kernel_rfl) (fun _ _ _ h => h) (Or.inr ⟨by rfl, rfl⟩) hHeld ?_
    (try simp only [Act.put, List.setIfInBounds_toArray, List.set_cons_zero, List.set_cons_succ])
    refine wpAnyM_take (i := 16) (oi := ⟨_, _, _, _, _, _⟩) (v := ?_) rfl (by kernel_rfl) (by kernel_rfl) (by kernel_rfl) (by kernel_rfl) (fun _ _ _ h => h) (Or.inl ⟨by rfl, ?_⟩) hHeld ?_
    rotate_left
    · (intro w' hSw; (try dsimp only at hSw); go_simp; try (with_reducible rfl))
    (try simp only [Act.put, List.setIfInBounds_toArray, List.set_cons_zero, List.set_cons_succ])
    refine wpAnyM_take (i := 17) (oi := ⟨_, _, _, _, _, _⟩) (v := ?_) rfl (by kernel_rfl) (by kernel_rfl) (by kernel_rfl) (by kernel_rfl) (fun _ _ _ h => h) (Or.inl ⟨by rfl, ?_⟩) hHeld ?_
    rotate_left
    · (intro w' hSw; (try dsimp only at hSw); go_simp; try (with_reducible rfl))
    (try simp only [Act.put, List.setIfInBounds_toArray, List.set_cons_zero, List.set_cons_succ])
    refine wpAnyM_done (by kernel_rfl) ?_ _
    go_wp2_with fail
    go_ret
    exact ⟨rfl, HB.out.trans (B3.out.mono HB.out.size)⟩
  replace hEy := hEy h2
  have h3 := hv h1 h2
  subst h1 h2 h3
  go_enter Tryd.func21, Tryd.ntmps21
  go_wp2_with fail
  generalize (w.alloc (.cells #[.int .i64 xo, .int .i64 xn, .slice xa xl.length xc] 24)).alloc (.cells #[.int .i64 yo, .int .i64 yn, .slice ya yl.length yc] 24) = w0 at *
  have hHeld : w0.drew.cell? ⟨w.heap.size, 0, none⟩ = some (.int .i64 xo) ∧ w0.drew.cell? ⟨w.heap.size, 1, none⟩ = some (.int .i64 xn) ∧ w0.drew.cell? ⟨w.heap.size, 2, none⟩ = some (.slice xa xl.length xc) ∧ w0.drew.cell? ⟨w.heap.size + 1, 0, none⟩ = some (.int .i64 yo) ∧ w0.drew.cell? ⟨w.heap.size + 1, 1, none⟩ = some (.int .i64 yn) ∧ w0.drew.cell? ⟨w.heap.size + 1, 2, none⟩ = some (.slice ya yl.length yc) ∧ w0.drew.cell? ⟨R, 0, none⟩ = some (.int .i64 rk) ∧ w0.drew.cell? ⟨R, 1, none⟩ = some (.int .i64 rt) ∧ w0.drew.cell? ⟨R, 2, none⟩ = some (.int .i64 rv) := ⟨(TX.out.below (Below.refl _ _)).c0, (TX.out.below (Below.refl _ _)).c1, (TX.out.below (Below.refl _ _)).c2, (TY.out.below (Below.refl _ _)).c0, (TY.out.below (Below.refl _ _)).c1, (TY.out.below (Below.refl _ _)).c2, (TR.out.below (Below.refl _ _)).c0, (TR.out.below (Below.refl _ _)).c1, (TR.out.below (Below.refl _ _)).c2⟩
  have B1 : Hid (Below w0.heap.size w0 w0.drew) := (Below.refl _ w0).drew
  have I1 : Hid (In w0.drew ⟨xo, xn, xa, xc, xl⟩ ∧ In w0.drew ⟨yo, yn, ya, yc, yl⟩) := ⟨IX.out.drew, IY.out.drew⟩
  refine wp_region_M (S := fun w' => w'.cell? ⟨w.heap.size, 0, none⟩ = some (.int .i64 xo) ∧ w'.cell? ⟨w.heap.size, 1, none⟩ = some (.int .i64 xn) ∧ w'.cell? ⟨w.heap.size, 2, none⟩ = some (.slice xa xl.length xc) ∧ w'.cell? ⟨w.heap.size + 1, 0, none⟩ = some (.int .i64 yo) ∧ w'.cell? ⟨w.heap.size + 1, 1, none⟩ = some (.int .i64 yn) ∧ w'.cell? ⟨w.heap.size + 1, 2, none⟩ = some (.slice ya yl.length yc) ∧ w'.cell? ⟨R, 0, none⟩ = some (.int .i64 rk) ∧ w'.cell? ⟨R, 1, none⟩ = some (.int .i64 rt) ∧ w'.cell? ⟨R, 2, none⟩ = some (.int .i64 rv)) (late := []) (by kernel_rfl) hHeld (fun hHeld => ?_)
  (try simp only [List.size_toArray, List.length_cons, List.length_nil, Nat.zero_add, Nat.reduceAdd, Array.replicate, List.replicate])
  refine wpAnyM_take (i := 0) (oi := ⟨_, _, _, _, _, _⟩) (v := ?_) rfl (by kernel_rfl) (by kernel_rfl) (by kernel_rfl) (by kernel_rfl) (fun _ _ _ h => h) (Or.inl ⟨by rfl, ?_⟩) hHeld ?_
  rotate_left
  · (intro w' hSw; (try dsimp only at hSw); go_simp; try (with_reducible rfl))
  (try simp only [Act.put, List.setIfInBounds_toArray, List.set_cons_zero, List.set_cons_succ])
  refine wpAnyM_one (i := 1) (o := ⟨_, _, _, _, _, _⟩) (by kernel_rfl) rfl (fun K hK => ?_)
  go_simp
  go_at_call 10
  refine (hCx.out _ I1.out.1).mono ?_
  rintro e w2 ⟨rfl, hb⟩
  have hb1 := B1.out.trans (hb.mono B1.out.size)
  have B2 := hide hb1
  have I2 := hide (And.intro (I1.out.1.below hb) (I1.out.2.below hb))
  refine hK.out _ _ ⟨(TX.out.below hb1).c0, (TX.out.below hb1).c1, (TX.out.below hb1).c2, (TY.out.below hb1).c0, (TY.out.below hb1).c1, (TY.out.below hb1).c2, (TR.out.below hb1).c0, (TR.out.below hb1).c1, (TR.out.below hb1).c2⟩ (fun hHeld => ?_)
  clear hK K hb hb1
  (try simp only [List.setIfInBounds_toArray, List.set_cons_zero, List.set_cons_succ])
  refine wpAnyM_take (i := 2) (oi := ⟨_, _, _, _, _, _⟩) (v := ?_) rfl (by kernel_rfl) (by kernel_rfl) (by kernel_rfl) (by kernel_rfl) (fun _ _ _ h => h) (Or.inl ⟨by rfl, ?_⟩) hHeld ?_
  rotate_left
  · (intro w' hSw; (try dsimp only at hSw); go_simp; try (with_reducible rfl))
  (try simp only [Act.put, List.setIfInBounds_toArray, List.set_cons_zero, List.set_cons_succ])
  refine wpAnyM_take (i := 3) (oi := ⟨_, _, _, _, _, _⟩) (v := ?_) rfl (by kernel_rfl) (by kernel_rfl) (by kernel_rfl) (by kernel_rfl) (fun _ _ _ h => h) (Or.inl ⟨by rfl, ?_⟩) hHeld ?_
  rotate_left
  · (intro w' hSw; (try dsimp only at hSw); go_simp; try (with_reducible rfl))
  (try simp only [Act.put, List.setIfInBounds_toArray, List.set_cons_zero, List.set_cons_succ])
  refine wpAnyM_take (i := 4) (oi := ⟨_, _, _, _, _, _⟩) (v := ?_) rfl (by kernel_rfl) (by kernel_rfl) (by kernel_rfl) (by kernel_rfl) (fun _ _ _ h => h) (Or.inl ⟨by rfl, ?_⟩) hHeld ?_
  rotate_left
  · (intro w' hSw; (try dsimp only at hSw); go_simp; try (with_reducible rfl))
  (try simp only [Act.put, List.setIfInBounds_toArray, List.set_cons_zero, List.set_cons_succ])
  refine wpAnyM_one (i := 5) (o := ⟨_, _, _, _, _, _⟩) (by kernel_rfl) rfl (fun K hK => ?_)
  go_simp
  go_at_call 10
  refine (hCy.out _ I2.out.2).mono ?_
  rintro e w3 ⟨rfl, hb⟩
  have hb1 := B2.out.trans (hb.mono B2.out.size)
  have B3 := hide hb1
  have I3 := hide (And.intro (I2.out.1.below hb) (I2.out.2.below hb))
  refine hK.out _ _ ⟨(TX.out.below hb1).c0, (TX.out.below hb1).c1, (TX.out.below hb1).c2, (TY.out.below hb1).c0, (TY.out.below hb1).c1, (TY.out.below hb1).c2, (TR.out.below hb1).c0, (TR.out.below hb1).c1, (TR.out.below hb1).c2⟩ (fun hHeld => ?_)
  clear hK K hb hb1
  (try simp only [List.setIfInBounds_toArray, List.set_cons_zero, List.set_cons_succ])
  refine wpAnyM_take (i := 6) (oi := ⟨_, _, _, _, _, _⟩) (v := ?_) rfl (by kernel_rfl) (by kernel_rfl) (by kernel_rfl) (by kernel_rfl) (fun _ _ _ h => h) (Or.inl ⟨by rfl, ?_⟩) hHeld ?_
  rotate_left
  · (intro w' hSw; (try dsimp only at hSw); go_simp; try (with_reducible rfl))
  (try simp only [Act.put, List.setIfInBounds_toArray, List.set_cons_zero, List.set_cons_succ])
  refine wpAnyM_take (i := 7) (oi := ⟨_, _, _, _, _, _⟩) (v := ?_) rfl (by kernel_rfl) (by kernel_rfl) (by kernel_rfl) (by kernel_rfl) (fun _ _ _ h => h) (Or.inl ⟨by rfl, ?_⟩) hHeld ?_
  rotate_left
  · (intro w' hSw; (try dsimp only at hSw); go_simp; try (with_reducible rfl))
  (try simp only [Act.put, List.setIfInBounds_toArray, List.set_cons_zero, List.set_cons_succ])
  refine wpAnyM_take (i := 8) (oi := ⟨_, _, _, _, _, _⟩) (v := ?_) rfl (by kernel_rfl) (by kernel_rfl) (by kernel_rfl) (by kernel_rfl) (fun _ _ _ h => h) (Or.inl ⟨by rfl, ?_⟩) hHeld ?_
  rotate_left
  · (intro w' hSw; (try dsimp only at hSw); go_simp; try (with_reducible rfl))
  (try simp only [Act.put, List.setIfInBounds_toArray, List.set_cons_zero, List.set_cons_succ])
  refine wpAnyM_take (i := 9) (oi := ⟨_, _, _, _, _, _⟩) (v := ?_) rfl (by kernel_rfl) (by kernel_rfl) (by kernel_rfl) (by kernel_rfl) (fun _ _ _ h => h) (Or.inl ⟨by rfl, ?_⟩) hHeld ?_
  rotate_left
  · (intro w' hSw; (try dsimp only at hSw); go_simp; try (with_reducible rfl))
  (try simp only [Act.put, List.setIfInBounds_toArray, List.set_cons_zero, List.set_cons_succ])
  refine wpAnyM_take (i := 10) (oi := ⟨_, _, _, _, _, _⟩) (v := ?_) rfl (by kernel_rfl) (by kernel_rfl) (by kernel_rfl) (by kernel_rfl) (fun _ _ _ h => h) (Or.inl ⟨by rfl, ?_⟩) hHeld ?_
  rotate_left
  · (intro w' hSw; (try dsimp only at hSw); go_simp; try (with_reducible rfl))
  (try simp only [Act.put, List.setIfInBounds_toArray, List.set_cons_zero, List.set_cons_succ])
  refine wpAnyM_take (i := 12) (oi := ⟨_, _, _, _, _, _⟩) (v := ?_) rfl (by kernel_rfl) (by kernel_rfl) (by kernel_rfl) (by kernel_rfl) (fun _ _ _ h => h) (Or.inl ⟨by rfl, ?_⟩) hHeld ?_
  rotate_left
  · (intro w' hSw; (try dsimp only at hSw); go_simp; try (with_reducible rfl))
  (try simp only [Act.put, List.setIfInBounds_toArray, List.set_cons_zero, List.set_cons_succ])
  refine wpAnyM_take (i := 13) (oi := ⟨_, _, _, _, _, _⟩) (v := ?_) rfl (by kernel_rfl) (by kernel_rfl) (by kernel_rfl) (by kernel_rfl) (fun _ _ _ h => h) (Or.inl ⟨by rfl, ?_⟩) hHeld ?_
  rotate_left
  · (intro w' hSw; (try dsimp only at hSw); go_simp; try (with_reducible rfl))
  (try simp only [Act.put, List.setIfInBounds_toArray, List.set_cons_zero, List.set_cons_succ])
  refine wpAnyM_one (i := 11) (o := ⟨_, _, _, _, _, _⟩) (by kernel_rfl) rfl (fun K hK => ?_)
  go_simp
  go_at_call 12
  refine (hEx.out _ I3.out.1).mono ?_
  rintro e w4 ⟨rfl, hb⟩
  have hb1 := B3.out.trans (hb.mono B3.out.size)
  have B4 := hide hb1
  have I4 := hide (And.intro (I3.out.1.below hb) (I3.out.2.below hb))
  refine hK.out _ _ ⟨(TX.out.below hb1).c0, (TX.out.below hb1).c1, (TX.out.below hb1).c2, (TY.out.below hb1).c0, (TY.out.below hb1).c1, (TY.out.below hb1).c2, (TR.out.below hb1).c0, (TR.out.below hb1).c1, (TR.out.below hb1).c2⟩ (fun hHeld => ?_)
  clear hK K hb hb1
  (try simp only [List.setIfInBounds_toArray, List.set_cons_zero, List.set_cons_succ])
  refine wpAnyM_one (i := 14) (o := ⟨_, _, _, _, _, _⟩) (by kernel_rfl) rfl (fun K hK => ?_)
  go_simp
  go_at_call 12
  refine (hEy.out _ I4.out.2).mono ?_
  rintro e w5 ⟨rfl, hb⟩
  have hb1 := B4.out.trans (hb.mono B4.out.size)
  have B5 := hide hb1
  have I5 := hide (And.intro (I4.out.1.below hb) (I4.out.2.below hb))
  refine hK.out _ _ ⟨(TX.out.below hb1).c0, (TX.out.below hb1).c1, (TX.out.below hb1).c2, (TY.out.below hb1).c0, (TY.out.below hb1).c1, (TY.out.below hb1).c2, (TR.out.below hb1).c0, (TR.out.below hb1).c1, (TR.out.below hb1).c2⟩ (fun hHeld => ?_)
  clear hK K hb hb1
  (try simp only [List.setIfInBounds_toArray, List.set_cons_zero, List.set_cons_succ])
  refine wpAnyM_take (i := 15) (oi := ⟨_, _, _, _, _, _⟩) (v := ?_) rfl (by kernel_rfl) (by kernel_rfl) (by kernel_rfl) (by kernel_rfl) (fun _ _ _ h => h) (Or.inl ⟨by rfl, ?_⟩) hHeld ?_
  rotate_left
  · (intro w' hSw; (try dsimp only at hSw); go_simp; try (with_reducible rfl))
  (try simp only [Act.put, List.setIfInBounds_toArray, List.set_cons_zero, List.set_cons_succ])
  refine wpAnyM_take (i := 16) (oi := ⟨_, _, _, _, _, _⟩) (v := ?_) rfl (by kernel_rfl) (by kernel_rfl) (by kernel_rfl) (by kernel_rfl) (fun _ _ _ h => h) (Or.inl ⟨by rfl, ?_⟩) hHeld ?_
  rotate_left
  · (intro w' hSw; (try dsimp only at hSw); go_simp; try (with_reducible rfl))
  (try simp only [Act.put, List.setIfInBounds_toArray, List.set_cons_zero, List.set_cons_succ])
  refine wpAnyM_take (i := 17) (oi := ⟨_, _, _, _, _, _⟩) (v := ?_) rfl (by kernel_rfl) (by kernel_rfl) (by kernel_rfl) (by kernel_rfl) (fun _ _ _ h => h) (Or.inl ⟨by rfl, ?_⟩) hHeld ?_
  rotate_left
  · (intro w' hSw; (try dsimp only at hSw); go_simp; try (with_reducible rfl))
  (try simp only [Act.put, List.setIfInBounds_toArray, List.set_cons_zero, List.set_cons_succ])
  refine wpAnyM_done (by kernel_rfl) ?_ _
  go_wp2_with fail
  go_ret
  exact ⟨rfl, HB.out.trans (B5.out.mono HB.out.size)⟩
end Go.Proofs.YtjdefmjcnpgjiaaDoor
