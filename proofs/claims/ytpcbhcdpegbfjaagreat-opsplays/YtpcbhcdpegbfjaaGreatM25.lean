/-
  Texts in build order: ZOEval, ZOSim, OCopy.
-/
import Derived.Test.YtpcbhcdpegbfjaaGreatM22
import Derived.Test.YtpcbhcdpegbfjaaGreatM24
/-
  eval of any expression.
-/
namespace Go.Proofs.YtpcbhcdpegbfjaaGreat.J
set_option maxHeartbeats 16000000
set_option maxRecDepth 100000
open Go.RowKit
/-! ### Eval -/
def bth (op a b : Int) : Int :=
  if op = 5 then wrap64 (a + b) else if op = 6 then wrap64 (a - b) else if op = 7 then wrap64 (a * b) else if op = 8 then (if a ≤ b then a else b) else if op = 9 then (if a ≤ b then b else a)
  else if op = 10 then bits .xor .i64 a b else if op = 11 then bits .and .i64 a b else if op = 12 then (if a < b then 1 else 0) else if op = 13 then (if a = b then 1 else 0) else 0
structure Rc where
  k : Int
  t : Int
  v : Int
def Rc.val (r : Rc) : Value := .agg #[.int .i64 r.k, .int .i64 r.t, .int .i64 r.v]
def evl1 (r : Rc) (op n : Int) (l : List Int) : Int :=
  if op = 1 then n else if op = 2 then r.k else if op = 3 then r.t else if op = 4 then r.v else if op = 14 then (if l.getD 0 0 = 0 then l.getD 2 0 else l.getD 1 0) else bth op (l.getD 0 0) (l.getD 1 0)
def evl (r : Rc) : Ex → Int := Ex.fold (evl1 r)
theorem evl_mk (r : Rc) (op n : Int) (a : Option Addr) (c : Nat) (l : List Ex) : evl r ⟨op, n, a, c, l⟩ = evl1 r op n (l.map (evl r)) := by
  unfold evl; rw [Ex.fold_mk]
theorem ops_of {op n : Int} {k : Nat} (h : snd1 op n k = true) : op = 1 ∨ op = 2 ∨ op = 3 ∨ op = 4 ∨ op = 5 ∨ op = 6 ∨ op = 7 ∨ op = 8 ∨ op = 9 ∨ op = 10 ∨ op = 11 ∨ op = 12 ∨ op = 13 ∨ op = 14 := by
  unfold snd1 at h
  simp only [Bool.and_eq_true, decide_eq_true_eq] at h
  have := h.1.1
  unfold ari at this
  split at this
  · omega
  · split at this
    · omega
    · split at this
      · omega
      · omega
theorem snd1_parts {op n : Int} {k : Nat} (h : snd1 op n k = true) : (op = 1 ∧ k = 0) ∨ ((op = 2 ∨ op = 3 ∨ op = 4) ∧ n = 0 ∧ k = 0) ∨ (¬ (op = 1) ∧ ¬ (op = 2 ∨ op = 3 ∨ op = 4) ∧ n = 0 ∧ (op = 14 ∧ k = 3 ∨ op ≠ 14 ∧ k = 2)) := by
  have ho := ops_of h
  unfold snd1 at h
  simp only [Bool.and_eq_true, Bool.or_eq_true, decide_eq_true_eq] at h
  obtain ⟨⟨h1, h2⟩, h3⟩ := h
  rcases ho with rfl | rfl | rfl | rfl | rfl | rfl | rfl | rfl | rfl | rfl | rfl | rfl | rfl | rfl <;> simp [ari] at * <;> omega
theorem ofBoth_any (op a b : Int) (hop : 5 ≤ op ∧ op ≤ 13) (w : World) :
    Calls Tryz.prog 84 #[.int .i64 op, .int .i64 a, .int .i64 b] w fun r w' => r = .returned (.int .i64 (bth op a b)) ∧ w' = w := by
  have hall : op = 5 ∨ op = 6 ∨ op = 7 ∨ op = 8 ∨ op = 9 ∨ op = 10 ∨ op = 11 ∨ op = 12 ∨ op = 13 := by omega
  rcases hall with rfl | rfl | rfl | rfl | rfl | rfl | rfl | rfl | rfl
  · go_enter Tryz.func84, Tryz.ntmps84
    go_wp2
    go_ret
    exact ⟨ret_int (by simp [bth]), rfl⟩
  · go_enter Tryz.func84, Tryz.ntmps84
    go_wp2
    go_ret
    exact ⟨ret_int (by simp only [bth]; simp; simp only [wrap64]; omega), rfl⟩
  · go_enter Tryz.func84, Tryz.ntmps84
    go_wp2
    go_ret
    exact ⟨ret_int (by simp [bth]), rfl⟩
  · go_enter Tryz.func84, Tryz.ntmps84
    go_wp2
    all_goals
      go_ret
      exact ⟨ret_int (by simp [bth]; try omega), rfl⟩
  · go_enter Tryz.func84, Tryz.ntmps84
    go_wp2
    all_goals
      go_ret
      exact ⟨ret_int (by simp [bth]; try omega), rfl⟩
  · go_enter Tryz.func84, Tryz.ntmps84
    go_wp2
    go_ret
    exact ⟨ret_int (by simp [bth]), rfl⟩
  · go_enter Tryz.func84, Tryz.ntmps84
    go_wp2
    go_ret
    exact ⟨ret_int (by simp [bth]), rfl⟩
  · go_enter Tryz.func84, Tryz.ntmps84
    go_wp2
    all_goals
      go_ret
      exact ⟨ret_int (by simp [bth]; try omega), rfl⟩
  · go_enter Tryz.func84, Tryz.ntmps84
    go_wp2
    all_goals
      go_ret
      exact ⟨ret_int (by simp_all [bth]), rfl⟩
structure Opd (w : World) (b o j : Nat) (x : Ex) : Prop where
  c0 : w.cell? ⟨b, o + j * 3, none⟩ = some (.int .i64 x.op)
  c1 : w.cell? ⟨b, o + j * 3 + 1, none⟩ = some (.int .i64 x.n)
  c2 : w.cell? ⟨b, o + j * 3 + 2, none⟩ = some (.slice x.a x.l.length x.c)
theorem In.opd {w : World} {op n : Int} {a : Option Addr} {c : Nat} {x : Ex} {r : List Ex} (h : In w ⟨op, n, a, c, x :: r⟩) :
    ∃ b o, a = some ⟨b, o, none⟩ ∧ b < w.heap.size ∧ ∀ j y, (x :: r)[j]? = some y → Opd w b o j y := by
  obtain ⟨b, o, h1, h2, _⟩ := h.self.at_ 0 x rfl
  refine ⟨b, o, h1, cell_lt h2, fun j y hy => ?_⟩
  obtain ⟨b', o', g1, g2, g3, g4⟩ := h.self.at_ j y hy
  simp only at h1 g1
  rw [h1] at g1
  simp only [Option.some.injEq, Addr.mk.injEq] at g1
  obtain ⟨rfl, rfl, _⟩ := g1
  exact ⟨g2, g3, g4⟩
theorem Opd.below {w w' : World} {b o j : Nat} {x : Ex} (h : Opd w b o j x) (hb : Below w.heap.size w w') : Opd w' b o j x := by
  have hl := cell_lt h.c0
  exact ⟨(hb.cell (p := ⟨b, _, none⟩) hl).trans h.c0, (hb.cell (p := ⟨b, _, none⟩) hl).trans h.c1, (hb.cell (p := ⟨b, _, none⟩) hl).trans h.c2⟩
theorem value_any (r : Rc) (e : Ex) : ∀ (w : World), In w e → formed e = true →
    Calls Tryz.prog 83 #[e.val, r.val] w fun v w' => v = .returned (.int .i64 (evl r e)) ∧ Below w.heap.size w w' := by
  refine Ex.ind (P := fun e => ∀ (w : World), In w e → formed e = true →
    Calls Tryz.prog 83 #[e.val, r.val] w fun v w' => v = .returned (.int .i64 (evl r e)) ∧ Below w.heap.size w w') ?_ e
  intro op m a c l ih w hin hf
  obtain ⟨rk, rt, rv⟩ := r
  have hs : snd1 op m l.length = true := formed_self hf
  rw [evl_mk]
  have hbb : Below w.heap.size w ((w.alloc (.cells #[.int .i64 op, .int .i64 m, .slice a l.length c] 25)).alloc (.cells #[.int .i64 rk, .int .i64 rt, .int .i64 rv] 38)) :=
    ((Below.refl _ _).alloc (Nat.le_refl _) _).alloc (by simp) _
  have HBB := hide hbb
  clear hbb
  unfold Ex.val Rc.val
  rcases snd1_parts hs with ⟨h1, h2⟩ | ⟨h1, h2, h3⟩ | ⟨h1, h2, h3, h4⟩
  · subst h1
    clear h2 hs
    go_enter Tryz.func83, Tryz.ntmps83
    go_wp2
    go_ret
    exact ⟨ret_int (by simp [evl1]), HBB.out⟩
  · clear h2 h3 hs
    rcases h1 with rfl | rfl | rfl
    all_goals
      go_enter Tryz.func83, Tryz.ntmps83
      go_wp2
      go_ret
      exact ⟨ret_int (by simp [evl1]), HBB.out⟩
  · rcases h4 with ⟨h4, h5⟩ | ⟨h4, h5⟩
    · subst h4
      obtain ⟨x, y, z, rfl⟩ : ∃ x y z, l = [x, y, z] := by
        match l, h5 with
        | [x, y, z], _ => exact ⟨x, y, z, rfl⟩
      obtain ⟨b, o, rfl, hlb, hop⟩ := hin.opd
      have hx := (hop 0 x rfl).below HBB.out
      have hy := (hop 1 y rfl).below HBB.out
      have hz := (hop 2 z rfl).below HBB.out
      have ix := hide ((hin.kid (x := x) (by simp)).below HBB.out)
      have iy := hide ((hin.kid (x := y) (by simp)).below HBB.out)
      have iz := hide ((hin.kid (x := z) (by simp)).below HBB.out)
      have fx := formed_kid hf (x := x) (by simp)
      have fy := formed_kid hf (x := y) (by simp)
      have fz := formed_kid hf (x := z) (by simp)
      have HX := hide hx
      have HY := hide hy
      have HZ := hide hz
      have vx_ := hide (fun w h => ih x (by simp) w h fx)
      have vy_ := hide (fun w h => ih y (by simp) w h fy)
      have vz_ := hide (fun w h => ih z (by simp) w h fz)
      simp only [List.map_cons, List.map_nil]
      generalize evl ⟨rk, rt, rv⟩ x = vx at vx_ ⊢
      generalize evl ⟨rk, rt, rv⟩ y = vy at vy_ ⊢
      generalize evl ⟨rk, rt, rv⟩ z = vz at vz_ ⊢
      have t2 : Tri ((w.alloc (.cells #[.int .i64 14, .int .i64 m, .slice (some ⟨b, o, none⟩) 3 c] 25)).alloc (.cells #[.int .i64 rk, .int .i64 rt, .int .i64 rv] 38)) w.heap.size (.int .i64 14) (.int .i64 m) (.slice (some ⟨b, o, none⟩) 3 c) :=
        (Tri.new w _ _ _ 25).below ((Below.refl _ _).alloc (Nat.le_refl _) _)
      have t3 : Tri ((w.alloc (.cells #[.int .i64 14, .int .i64 m, .slice (some ⟨b, o, none⟩) 3 c] 25)).alloc (.cells #[.int .i64 rk, .int .i64 rt, .int .i64 rv] 38)) (w.heap.size + 1) (.int .i64 rk) (.int .i64 rt) (.int .i64 rv) := by
        have := Tri.new (w.alloc (.cells #[.int .i64 14, .int .i64 m, .slice (some ⟨b, o, none⟩) 3 c] 25)) (.int .i64 rk) (.int .i64 rt) (.int .i64 rv) 38
        simpa using this
      have T2 := hide t2
      have T3 := hide t3
      clear hx hy hz ih t2 t3 hop hs h1 h2 h3 h5 hf hin
      simp only [List.length_cons, List.length_nil, Nat.zero_add, Nat.reduceAdd] at HBB ix iy iz HX HY HZ ⊢
      go_enter Tryz.func83, Tryz.ntmps83
      go_wp2_with fail
      generalize (w.alloc (.cells #[.int .i64 14, .int .i64 m, .slice (some ⟨b, o, none⟩) 3 c] 25)).alloc (.cells #[.int .i64 rk, .int .i64 rt, .int .i64 rv] 38) = w1 at *
      obtain ⟨p0, p1, p2⟩ := T2.out
      obtain ⟨r0, r1, r2⟩ := T3.out
      obtain ⟨x0, x1, x2⟩ := HX.out
      obtain ⟨xo, xn, xa, xc, xl⟩ := x
      simp only [Nat.zero_mul, Nat.add_zero] at x0 x1 x2
      have hxv := hide (vx_.out w1.drew ix.out.drew)
      clear ix vx_
      go_region_held3 (fun w' => w'.cell? ⟨w.heap.size, 2, none⟩ = some (.slice (some ⟨b, o, none⟩) 3 c) ∧ w'.cell? ⟨w.heap.size + 1, 0, none⟩ = some (.int .i64 rk) ∧ w'.cell? ⟨w.heap.size + 1, 1, none⟩ = some (.int .i64 rt) ∧ w'.cell? ⟨w.heap.size + 1, 2, none⟩ = some (.int .i64 rv) ∧ w'.cell? ⟨b, o, none⟩ = some (.int .i64 xo) ∧ w'.cell? ⟨b, o + 1, none⟩ = some (.int .i64 xn) ∧ w'.cell? ⟨b, o + 2, none⟩ = some (.slice xa xl.length xc))
        (first | go_keep | exact ⟨p2, r0, r1, r2, x0, x1, x2⟩ | exact sw2)
        (first | (go_at_call 83; refine hxv.out.mono ?_; clear hxv; rintro e w2 ⟨rfl, hb⟩
                  have hb' : Below w1.heap.size w1 w2 := ((Below.refl _ w1).drew).trans hb
                  have sw2 : w2.cell? ⟨w.heap.size, 2, none⟩ = some (.slice (some ⟨b, o, none⟩) 3 c) ∧ w2.cell? ⟨w.heap.size + 1, 0, none⟩ = some (.int .i64 rk) ∧ w2.cell? ⟨w.heap.size + 1, 1, none⟩ = some (.int .i64 rt) ∧ w2.cell? ⟨w.heap.size + 1, 2, none⟩ = some (.int .i64 rv) ∧ w2.cell? ⟨b, o, none⟩ = some (.int .i64 xo) ∧ w2.cell? ⟨b, o + 1, none⟩ = some (.int .i64 xn) ∧ w2.cell? ⟨b, o + 2, none⟩ = some (.slice xa xl.length xc) :=
                    ⟨(T2.out.below hb').c2, (T3.out.below hb').c0, (T3.out.below hb').c1, (T3.out.below hb').c2, by simpa [Nat.add_assoc] using (HX.out.below hb').c0, by simpa [Nat.add_assoc] using (HX.out.below hb').c1, by simpa [Nat.add_assoc] using (HX.out.below hb').c2⟩))
      have hb1 := hide (HBB.out.trans (hb'.mono HBB.out.size))
      have HB := hide hb'
      obtain ⟨p2, r0, r1, r2, x0, x1, x2⟩ := sw2
      clear hb hb' x0 x1 x2
      by_cases hv : vx = 0
      · have hv1 : (vx == 0) = true := by simp [hv]
        have hv2 : (vx != 0) = false := by simp [hv]
        have HV := hide hv
        clear hv
        have hz2 := HZ.out.below HB.out
        have HZ2 := hide hz2
        obtain ⟨z0, z1, z2⟩ := hz2
        obtain ⟨zo, zn, za, zc, zl⟩ := z
        simp only [Nat.reduceMul, Nat.add_assoc, Nat.reduceAdd] at z0 z1 z2
        have hzv := hide (vz_.out w2.drew (iz.out.below HB.out).drew)
        clear iz
        have G2 := hide (T2.out.below HB.out)
        have G3 := hide (T3.out.below HB.out)
        go_wp2_with fail
        go_region_held3 (fun w' => w'.cell? ⟨w.heap.size, 2, none⟩ = some (.slice (some ⟨b, o, none⟩) 3 c) ∧ w'.cell? ⟨w.heap.size + 1, 0, none⟩ = some (.int .i64 rk) ∧ w'.cell? ⟨w.heap.size + 1, 1, none⟩ = some (.int .i64 rt) ∧ w'.cell? ⟨w.heap.size + 1, 2, none⟩ = some (.int .i64 rv) ∧ w'.cell? ⟨b, o + 6, none⟩ = some (.int .i64 zo) ∧ w'.cell? ⟨b, o + 7, none⟩ = some (.int .i64 zn) ∧ w'.cell? ⟨b, o + 8, none⟩ = some (.slice za zl.length zc))
          (first | go_keep | exact ⟨p2, r0, r1, r2, z0, z1, z2⟩ | exact sw3)
          (first | (go_at_call 83; refine hzv.out.mono ?_; clear hzv; rintro e w3 ⟨rfl, hb⟩
                    have hb' : Below w2.heap.size w2 w3 := ((Below.refl _ w2).drew).trans hb
                    have sw3 : w3.cell? ⟨w.heap.size, 2, none⟩ = some (.slice (some ⟨b, o, none⟩) 3 c) ∧ w3.cell? ⟨w.heap.size + 1, 0, none⟩ = some (.int .i64 rk) ∧ w3.cell? ⟨w.heap.size + 1, 1, none⟩ = some (.int .i64 rt) ∧ w3.cell? ⟨w.heap.size + 1, 2, none⟩ = some (.int .i64 rv) ∧ w3.cell? ⟨b, o + 6, none⟩ = some (.int .i64 zo) ∧ w3.cell? ⟨b, o + 7, none⟩ = some (.int .i64 zn) ∧ w3.cell? ⟨b, o + 8, none⟩ = some (.slice za zl.length zc) :=
                      ⟨(G2.out.below hb').c2, (G3.out.below hb').c0, (G3.out.below hb').c1, (G3.out.below hb').c2, by simpa [Nat.add_assoc] using (HZ2.out.below hb').c0, by simpa [Nat.add_assoc] using (HZ2.out.below hb').c1, by simpa [Nat.add_assoc] using (HZ2.out.below hb').c2⟩))
        clear sw3 hb
        have hb2 := hide (hb1.out.trans (hb'.mono hb1.out.size))
        clear hb'
        go_wp2_with fail
        go_ret
        exact ⟨ret_int (by simp [evl1, HV.out]), hb2.out⟩
      · have hv1 : (vx == 0) = false := by simp [hv]
        have hv2 : (vx != 0) = true := by simp [hv]
        have HV := hide hv
        clear hv
        have hy2 := HY.out.below HB.out
        have HY2 := hide hy2
        obtain ⟨y0, y1, y2⟩ := hy2
        obtain ⟨yo, yn, ya, yc, yl⟩ := y
        simp only [Nat.reduceMul, Nat.add_assoc, Nat.reduceAdd] at y0 y1 y2
        have hyv := hide (vy_.out w2.drew (iy.out.below HB.out).drew)
        clear iy
        have G2 := hide (T2.out.below HB.out)
        have G3 := hide (T3.out.below HB.out)
        go_wp2_with fail
        go_region_held3 (fun w' => w'.cell? ⟨w.heap.size, 2, none⟩ = some (.slice (some ⟨b, o, none⟩) 3 c) ∧ w'.cell? ⟨w.heap.size + 1, 0, none⟩ = some (.int .i64 rk) ∧ w'.cell? ⟨w.heap.size + 1, 1, none⟩ = some (.int .i64 rt) ∧ w'.cell? ⟨w.heap.size + 1, 2, none⟩ = some (.int .i64 rv) ∧ w'.cell? ⟨b, o + 3, none⟩ = some (.int .i64 yo) ∧ w'.cell? ⟨b, o + 4, none⟩ = some (.int .i64 yn) ∧ w'.cell? ⟨b, o + 5, none⟩ = some (.slice ya yl.length yc))
          (first | go_keep | exact ⟨p2, r0, r1, r2, y0, y1, y2⟩ | exact sw3)
          (first | (go_at_call 83; refine hyv.out.mono ?_; clear hyv; rintro e w3 ⟨rfl, hb⟩
                    have hb' : Below w2.heap.size w2 w3 := ((Below.refl _ w2).drew).trans hb
                    have sw3 : w3.cell? ⟨w.heap.size, 2, none⟩ = some (.slice (some ⟨b, o, none⟩) 3 c) ∧ w3.cell? ⟨w.heap.size + 1, 0, none⟩ = some (.int .i64 rk) ∧ w3.cell? ⟨w.heap.size + 1, 1, none⟩ = some (.int .i64 rt) ∧ w3.cell? ⟨w.heap.size + 1, 2, none⟩ = some (.int .i64 rv) ∧ w3.cell? ⟨b, o + 3, none⟩ = some (.int .i64 yo) ∧ w3.cell? ⟨b, o + 4, none⟩ = some (.int .i64 yn) ∧ w3.cell? ⟨b, o + 5, none⟩ = some (.slice ya yl.length yc) :=
                      ⟨(G2.out.below hb').c2, (G3.out.below hb').c0, (G3.out.below hb').c1, (G3.out.below hb').c2, by simpa [Nat.add_assoc] using (HY2.out.below hb').c0, by simpa [Nat.add_assoc] using (HY2.out.below hb').c1, by simpa [Nat.add_assoc] using (HY2.out.below hb').c2⟩))
        clear sw3 hb
        have hb2 := hide (hb1.out.trans (hb'.mono hb1.out.size))
        clear hb'
        go_wp2_with fail
        go_ret
        exact ⟨ret_int (by simp [evl1, HV.out]), hb2.out⟩
    · obtain ⟨x, y, rfl⟩ : ∃ x y, l = [x, y] := by
        match l, h5 with
        | [x, y], _ => exact ⟨x, y, rfl⟩
      obtain ⟨b, o, rfl, hlb, hop⟩ := hin.opd
      have hx := (hop 0 x rfl).below HBB.out
      have hy := (hop 1 y rfl).below HBB.out
      have ix := hide ((hin.kid (x := x) (by simp)).below HBB.out)
      have iy := hide ((hin.kid (x := y) (by simp)).below HBB.out)
      have fx := formed_kid hf (x := x) (by simp)
      have fy := formed_kid hf (x := y) (by simp)
      have HX := hide hx
      have HY := hide hy
      have vx_ := hide (fun w h => ih x (by simp) w h fx)
      have vy_ := hide (fun w h => ih y (by simp) w h fy)
      simp only [List.map_cons, List.map_nil]
      generalize evl ⟨rk, rt, rv⟩ x = vx at vx_ ⊢
      generalize evl ⟨rk, rt, rv⟩ y = vy at vy_ ⊢
      have t2 : Tri ((w.alloc (.cells #[.int .i64 op, .int .i64 m, .slice (some ⟨b, o, none⟩) 2 c] 25)).alloc (.cells #[.int .i64 rk, .int .i64 rt, .int .i64 rv] 38)) w.heap.size (.int .i64 op) (.int .i64 m) (.slice (some ⟨b, o, none⟩) 2 c) :=
        (Tri.new w _ _ _ 25).below ((Below.refl _ _).alloc (Nat.le_refl _) _)
      have t3 : Tri ((w.alloc (.cells #[.int .i64 op, .int .i64 m, .slice (some ⟨b, o, none⟩) 2 c] 25)).alloc (.cells #[.int .i64 rk, .int .i64 rt, .int .i64 rv] 38)) (w.heap.size + 1) (.int .i64 rk) (.int .i64 rt) (.int .i64 rv) := by
        have := Tri.new (w.alloc (.cells #[.int .i64 op, .int .i64 m, .slice (some ⟨b, o, none⟩) 2 c] 25)) (.int .i64 rk) (.int .i64 rt) (.int .i64 rv) 38
        simpa using this
      have T2 := hide t2
      have T3 := hide t3
      have hov := ops_of hs
      have hop1 : ¬ op = 1 := h1
      have hop2 : ¬ op = 2 := by omega
      have hop3 : ¬ op = 3 := by omega
      have hop4 : ¬ op = 4 := by omega
      have hop5 : Hid (5 ≤ op ∧ op ≤ 13) := ⟨by omega, by omega⟩
      clear hx hy ih t2 t3 hop hs h1 h2 h3 h5 hf hin hov
      simp only [List.length_cons, List.length_nil, Nat.zero_add, Nat.reduceAdd] at HBB ix iy HX HY ⊢
      go_enter Tryz.func83, Tryz.ntmps83
      go_wp2_with fail
      generalize (w.alloc (.cells #[.int .i64 op, .int .i64 m, .slice (some ⟨b, o, none⟩) 2 c] 25)).alloc (.cells #[.int .i64 rk, .int .i64 rt, .int .i64 rv] 38) = w1 at *
      obtain ⟨xo, xn, xa, xc, xl⟩ := x
      obtain ⟨yo, yn, ya, yc, yl⟩ := y
      have s1 : w1.cell? ⟨w.heap.size, 0, none⟩ = some (.int .i64 op) ∧ w1.cell? ⟨w.heap.size, 2, none⟩ = some (.slice (some ⟨b, o, none⟩) 2 c) ∧ w1.cell? ⟨w.heap.size + 1, 0, none⟩ = some (.int .i64 rk) ∧ w1.cell? ⟨w.heap.size + 1, 1, none⟩ = some (.int .i64 rt) ∧ w1.cell? ⟨w.heap.size + 1, 2, none⟩ = some (.int .i64 rv) ∧ w1.cell? ⟨b, o, none⟩ = some (.int .i64 xo) ∧ w1.cell? ⟨b, o + 1, none⟩ = some (.int .i64 xn) ∧ w1.cell? ⟨b, o + 2, none⟩ = some (.slice xa xl.length xc) ∧ w1.cell? ⟨b, o + 3, none⟩ = some (.int .i64 yo) ∧ w1.cell? ⟨b, o + 4, none⟩ = some (.int .i64 yn) ∧ w1.cell? ⟨b, o + 5, none⟩ = some (.slice ya yl.length yc) := ⟨(T2.out.below (Below.refl _ _)).c0, (T2.out.below (Below.refl _ _)).c2, (T3.out.below (Below.refl _ _)).c0, (T3.out.below (Below.refl _ _)).c1, (T3.out.below (Below.refl _ _)).c2, by simpa [Nat.add_assoc] using (HX.out.below (Below.refl _ _)).c0, by simpa [Nat.add_assoc] using (HX.out.below (Below.refl _ _)).c1, by simpa [Nat.add_assoc] using (HX.out.below (Below.refl _ _)).c2, by simpa [Nat.add_assoc] using (HY.out.below (Below.refl _ _)).c0, by simpa [Nat.add_assoc] using (HY.out.below (Below.refl _ _)).c1, by simpa [Nat.add_assoc] using (HY.out.below (Below.refl _ _)).c2⟩
      have hxv := hide (vx_.out w1.drew ix.out.drew)
      go_region_held3 (fun w' => w'.cell? ⟨w.heap.size, 0, none⟩ = some (.int .i64 op) ∧ w'.cell? ⟨w.heap.size, 2, none⟩ = some (.slice (some ⟨b, o, none⟩) 2 c) ∧ w'.cell? ⟨w.heap.size + 1, 0, none⟩ = some (.int .i64 rk) ∧ w'.cell? ⟨w.heap.size + 1, 1, none⟩ = some (.int .i64 rt) ∧ w'.cell? ⟨w.heap.size + 1, 2, none⟩ = some (.int .i64 rv) ∧ w'.cell? ⟨b, o, none⟩ = some (.int .i64 xo) ∧ w'.cell? ⟨b, o + 1, none⟩ = some (.int .i64 xn) ∧ w'.cell? ⟨b, o + 2, none⟩ = some (.slice xa xl.length xc) ∧ w'.cell? ⟨b, o + 3, none⟩ = some (.int .i64 yo) ∧ w'.cell? ⟨b, o + 4, none⟩ = some (.int .i64 yn) ∧ w'.cell? ⟨b, o + 5, none⟩ = some (.slice ya yl.length yc))
        (first | go_keep | exact s1 | exact s2 | exact s3)
        (first
          | (go_at_call 83; refine hxv.out.mono ?_; clear hxv; rintro e w2 ⟨rfl, hb⟩
             have hb1 : Below w1.heap.size w1 w2 := ((Below.refl _ w1).drew).trans hb
             have s2 : w2.cell? ⟨w.heap.size, 0, none⟩ = some (.int .i64 op) ∧ w2.cell? ⟨w.heap.size, 2, none⟩ = some (.slice (some ⟨b, o, none⟩) 2 c) ∧ w2.cell? ⟨w.heap.size + 1, 0, none⟩ = some (.int .i64 rk) ∧ w2.cell? ⟨w.heap.size + 1, 1, none⟩ = some (.int .i64 rt) ∧ w2.cell? ⟨w.heap.size + 1, 2, none⟩ = some (.int .i64 rv) ∧ w2.cell? ⟨b, o, none⟩ = some (.int .i64 xo) ∧ w2.cell? ⟨b, o + 1, none⟩ = some (.int .i64 xn) ∧ w2.cell? ⟨b, o + 2, none⟩ = some (.slice xa xl.length xc) ∧ w2.cell? ⟨b, o + 3, none⟩ = some (.int .i64 yo) ∧ w2.cell? ⟨b, o + 4, none⟩ = some (.int .i64 yn) ∧ w2.cell? ⟨b, o + 5, none⟩ = some (.slice ya yl.length yc) := ⟨(T2.out.below hb1).c0, (T2.out.below hb1).c2, (T3.out.below hb1).c0, (T3.out.below hb1).c1, (T3.out.below hb1).c2, by simpa [Nat.add_assoc] using (HX.out.below hb1).c0, by simpa [Nat.add_assoc] using (HX.out.below hb1).c1, by simpa [Nat.add_assoc] using (HX.out.below hb1).c2, by simpa [Nat.add_assoc] using (HY.out.below hb1).c0, by simpa [Nat.add_assoc] using (HY.out.below hb1).c1, by simpa [Nat.add_assoc] using (HY.out.below hb1).c2⟩
             have HB1 := hide hb1
             have hyv := hide (vy_.out w2 (iy.out.below hb1))
             clear hb hb1)
          | (go_at_call 83; refine hyv.out.mono ?_; clear hyv; rintro e w3 ⟨rfl, hb⟩
             have hb1 : Below w1.heap.size w1 w3 := HB1.out.trans (hb.mono HB1.out.size)
             have s3 : w3.cell? ⟨w.heap.size, 0, none⟩ = some (.int .i64 op) ∧ w3.cell? ⟨w.heap.size, 2, none⟩ = some (.slice (some ⟨b, o, none⟩) 2 c) ∧ w3.cell? ⟨w.heap.size + 1, 0, none⟩ = some (.int .i64 rk) ∧ w3.cell? ⟨w.heap.size + 1, 1, none⟩ = some (.int .i64 rt) ∧ w3.cell? ⟨w.heap.size + 1, 2, none⟩ = some (.int .i64 rv) ∧ w3.cell? ⟨b, o, none⟩ = some (.int .i64 xo) ∧ w3.cell? ⟨b, o + 1, none⟩ = some (.int .i64 xn) ∧ w3.cell? ⟨b, o + 2, none⟩ = some (.slice xa xl.length xc) ∧ w3.cell? ⟨b, o + 3, none⟩ = some (.int .i64 yo) ∧ w3.cell? ⟨b, o + 4, none⟩ = some (.int .i64 yn) ∧ w3.cell? ⟨b, o + 5, none⟩ = some (.slice ya yl.length yc) := ⟨(T2.out.below hb1).c0, (T2.out.below hb1).c2, (T3.out.below hb1).c0, (T3.out.below hb1).c1, (T3.out.below hb1).c2, by simpa [Nat.add_assoc] using (HX.out.below hb1).c0, by simpa [Nat.add_assoc] using (HX.out.below hb1).c1, by simpa [Nat.add_assoc] using (HX.out.below hb1).c2, by simpa [Nat.add_assoc] using (HY.out.below hb1).c0, by simpa [Nat.add_assoc] using (HY.out.below hb1).c1, by simpa [Nat.add_assoc] using (HY.out.below hb1).c2⟩
             have HB2 := hide hb1
             clear hb hb1)
          | (go_at_call 84; refine (ofBoth_any _ _ _ hop5.out _).mono ?_; rintro e w4 ⟨rfl, rfl⟩))
      have HB3 := hide (HBB.out.trans (HB2.out.mono HBB.out.size))
      go_wp2_with fail
      go_ret
      exact ⟨ret_int (by simp [evl1, hop1, hop2, hop3, hop4, h4]), HB3.out⟩
theorem eval_of {w : World} (e : Ex) (r : Rc) (hin : In w e) (hck : ∀ w', In w' e → Calls Tryz.prog 49 #[e.val] w' fun r w'' => r = .returned (.int .i64 (chk e)) ∧ Below w'.heap.size w' w'') :
    Calls Tryz.prog 82 #[e.val, r.val] w fun v w' => v = .returned (.int .i64 (if chk e = 0 then evl r e else 0)) ∧ Below w.heap.size w w' := by
  have hbb : Below w.heap.size w ((w.alloc (.cells #[.int .i64 e.op, .int .i64 e.n, .slice e.a e.l.length e.c] 25)).alloc (.cells #[.int .i64 r.k, .int .i64 r.t, .int .i64 r.v] 38)) :=
    ((Below.refl _ _).alloc (Nat.le_refl _) _).alloc (by simp) _
  have HB := hide hbb
  have hc := hide (hck _ (hin.below hbb))
  have hf : chk e = 0 → formed e = true := by
    unfold chk
    intro h
    cases hfe : formed e
    · rw [hfe] at h; simp at h
    · rfl
  have hv : chk e = 0 → Hid (∀ w', In w' e → Calls Tryz.prog 83 #[e.val, r.val] w' fun v w'' => v = .returned (.int .i64 (evl r e)) ∧ Below w'.heap.size w' w'') := fun h w' h' => value_any r e w' h' (hf h)
  have HI := hide (hin.below hbb)
  have t2 : Tri ((w.alloc (.cells #[.int .i64 e.op, .int .i64 e.n, .slice e.a e.l.length e.c] 25)).alloc (.cells #[.int .i64 r.k, .int .i64 r.t, .int .i64 r.v] 38)) w.heap.size (.int .i64 e.op) (.int .i64 e.n) (.slice e.a e.l.length e.c) :=
    (Tri.new w _ _ _ 25).below ((Below.refl _ _).alloc (Nat.le_refl _) _)
  have t3 : Tri ((w.alloc (.cells #[.int .i64 e.op, .int .i64 e.n, .slice e.a e.l.length e.c] 25)).alloc (.cells #[.int .i64 r.k, .int .i64 r.t, .int .i64 r.v] 38)) (w.heap.size + 1) (.int .i64 r.k) (.int .i64 r.t) (.int .i64 r.v) := by
    have := Tri.new (w.alloc (.cells #[.int .i64 e.op, .int .i64 e.n, .slice e.a e.l.length e.c] 25)) (.int .i64 r.k) (.int .i64 r.t) (.int .i64 r.v) 38
    simpa using this
  have T2 := hide t2
  have T3 := hide t3
  clear hbb hin hck hf t2 t3
  obtain ⟨eo, en, ea, ec, el⟩ := e
  obtain ⟨rk, rt, rv⟩ := r
  unfold Ex.val Rc.val at *
  simp only at hc HB T2 T3 ⊢
  generalize chk ⟨eo, en, ea, ec, el⟩ = ck at *
  generalize evl ⟨rk, rt, rv⟩ ⟨eo, en, ea, ec, el⟩ = vl at *
  by_cases h0 : ck = 0
  · have hv' := hv h0
    clear hv
    subst h0
    rw [if_pos rfl]
    go_enter Tryz.func82, Tryz.ntmps82
    go_wp2_with (first
      | (go_at_call 49; refine hc.out.mono ?_; clear hc; rintro e w2 ⟨rfl, hb2⟩
         have HB2 := hide hb2
         have hvc := hide (hv'.out _ (HI.out.below hb2))
         obtain ⟨p0, p1, p2⟩ := T2.out.below hb2
         obtain ⟨r0, r1, r2⟩ := T3.out.below hb2
         clear hb2)
      | (go_at_call 83; refine hvc.out.mono ?_; rintro e w3 ⟨rfl, hb3⟩))
    go_ret
    have hb4 := HB.out.trans (HB2.out.mono HB.out.size)
    exact ⟨rfl, hb4.trans (hb3.mono hb4.size)⟩
  · have h1 : (ck != 0) = true := by simp [h0]
    have h2 : (ck == 0) = false := by simp [h0]
    rw [if_neg h0]
    clear hv
    go_enter Tryz.func82, Tryz.ntmps82
    go_wp2_with (go_at_call 49; refine hc.out.mono ?_; clear hc; rintro e w2 ⟨rfl, hb2⟩)
    go_ret
    exact ⟨rfl, HB.out.trans (hb2.mono HB.out.size)⟩
end Go.Proofs.YtpcbhcdpegbfjaaGreat.J
/-
 Expressions that are alike but for where they lie.
-/
namespace Go.Proofs.YtpcbhcdpegbfjaaGreat.J
open Go.RowKit
def Sim (e e' : Ex) : Prop := e.op = e'.op ∧ e.n = e'.n ∧ e.l.length = e'.l.length ∧ ∀ {α : Type} (f : Int → Int → List α → α), Ex.fold f e = Ex.fold f e'
theorem Sim.refl (e : Ex) : Sim e e := ⟨rfl, rfl, rfl, fun _ => rfl⟩
theorem Sim.mk {op n : Int} {a a' : Option Addr} {c c' : Nat} {l l' : List Ex} (hl : l.length = l'.length) (h : ∀ (j : Nat) (x x' : Ex), l[j]? = some x → l'[j]? = some x' → Sim x x') : Sim ⟨op, n, a, c, l⟩ ⟨op, n, a', c', l'⟩ := by
 refine ⟨rfl, rfl, hl, fun {α} f => ?_⟩
 rw [Ex.fold_mk, Ex.fold_mk]
 refine congrArg (f op n) (List.ext_getElem? fun j => ?_)
 rw [List.getElem?_map, List.getElem?_map]
 by_cases hj : j < l.length
 ·have hj' : j < l'.length := by omega
  have e1 : l[j]? = some l[j] := List.getElem?_eq_getElem hj
  have e2 : l'[j]? = some l'[j] := List.getElem?_eq_getElem hj'
  rw [e1, e2]
  exact congrArg some ((h j _ _ e1 e2).2.2.2 f)
 ·rw [List.getElem?_eq_none (by omega), List.getElem?_eq_none (by omega)]
theorem Sim.formed {e e' : Ex} (h : Sim e e') : formed e = formed e' := h.2.2.2 _
theorem Sim.size {e e' : Ex} (h : Sim e e') : size e = size e' := h.2.2.2 _
theorem Sim.dep {e e' : Ex} (h : Sim e e') : dep e = dep e' := h.2.2.2 _
theorem Sim.cnt {e e' : Ex} (h : Sim e e') : cnt e = cnt e' := h.2.2.2 _
theorem Sim.chk {e e' : Ex} (h : Sim e e') : chk e = chk e' := by
 unfold J.chk
 rw [h.formed, h.size, h.dep]
theorem Sim.evl {e e' : Ex} (r : Rc) (h : Sim e e') : evl r e = evl r e' := h.2.2.2 _
end Go.Proofs.YtpcbhcdpegbfjaaGreat.J
/-
 copied, own: an expression in memory of its own.
-/
namespace Go.Proofs.YtpcbhcdpegbfjaaGreat.J
set_option maxHeartbeats 16000000
set_option maxRecDepth 100000
open Go.RowKit
def Far (B : Nat) (e : Ex) : Prop := ∀ x ∈ e.sub, ∀ b o, x.a = some ⟨b, o, none⟩ → B ≤ b
theorem Far.mono {B B' : Nat} {e : Ex} (h : Far B e) (hb : B' ≤ B) : Far B' e := fun x hx b o e => Nat.le_trans hb (h x hx b o e)
theorem Far.mk {B : Nat} {op n : Int} {b o c : Nat} {l : List Ex} (hb : B ≤ b) (h : ∀ x ∈ l, Far B x) : Far B ⟨op, n, some ⟨b, o, none⟩, c, l⟩ := by
 intro x hx
 rw [Ex.sub_eq] at hx
 rcases List.mem_cons.1 hx with rfl | hx
 ·intro b' o' e
  simp only [Option.some.injEq, Addr.mk.injEq] at e
  omega
 ·obtain ⟨z, hz, hx⟩ := List.mem_flatMap.1 hx
  exact h z hz x hx
theorem In.set {w : World} {e : Ex} (h : In w e) {B k : Nat} (hf : Far B e) (hk : k < B) (j : Nat) (v : Value) : In (w.setCell ⟨k, j, none⟩ v) e := by
 intro x hx
 have hL := h x hx
 refine ⟨hL.op1, hL.op2, hL.n1, hL.n2, hL.len, hL.cap, fun i y hy => ?_⟩
 obtain ⟨b, o, e1, c1, c2, c3⟩ := hL.at_ i y hy
 have hb := hf x hx b o e1
 have he : (w.setCell ⟨k, j, none⟩ v).heap[b]? = w.heap[b]? := Below.heap_setCell w ⟨k, j, none⟩ v b (by show b ≠ k; omega)
 refine ⟨b, o, e1, ?_, ?_, ?_⟩ <;> simp only [World.cell?, he] at * <;> assumption
def Ex.cs (e : Ex) : List Value := [.int .i64 e.op, .int .i64 e.n, .slice e.a e.l.length e.c]
theorem Ex.cs_len (e : Ex) : e.cs.length = 3 := rfl
def zeros : Nat → List Value
 | 0 => []
 | n + 1 => .int .i64 0 :: .int .i64 0 :: .slice none 0 0 :: zeros n
def rowL (m : Nat) (es : List Ex) : List Value := es.flatMap Ex.cs ++ zeros m
theorem rowL_get {m : Nat} {es : List Ex} : (rowL (m + 1) es)[es.length * 3]? = some (.int .i64 0) ∧ (rowL (m + 1) es)[es.length * 3 + 1]? = some (.int .i64 0) ∧ (rowL (m + 1) es)[es.length * 3 + 2]? = some (.slice none 0 0) := by
 have hl := flat_size Ex.cs_len es
 unfold rowL
 rw [List.getElem?_append_right (by omega), List.getElem?_append_right (by omega), List.getElem?_append_right (by omega), hl]
 simp [zeros]
theorem rowL_set {m : Nat} {es : List Ex} (y : Ex) : ((((rowL (m + 1) es).toArray.setIfInBounds (es.length * 3) (.int .i64 y.op)).setIfInBounds (es.length * 3 + 1) (.int .i64 y.n)).setIfInBounds (es.length * 3 + 2) (.slice y.a y.l.length y.c)) = (rowL m (es ++ [y])).toArray := by
 have hl := flat_size Ex.cs_len es
 unfold rowL
 simp only [List.setIfInBounds_toArray]
 congr 1
 rw [List.set_append_right _ _ (by omega), List.set_append_right _ _ (by omega), List.set_append_right _ _ (by omega), hl]
 simp [zeros, Ex.cs]
theorem rowL_at {m : Nat} {es : List Ex} {i : Nat} {x : Ex} (h : es[i]? = some x) : (rowL m es)[i * 3]? = some (.int .i64 x.op) ∧ (rowL m es)[i * 3 + 1]? = some (.int .i64 x.n) ∧ (rowL m es)[i * 3 + 2]? = some (.slice x.a x.l.length x.c) := by
 have hl := flat_size Ex.cs_len es
 have hi := (List.getElem?_eq_some_iff.1 h).1
 have h0 := flat_get Ex.cs_len es i 0 x _ h rfl
 have h1 := flat_get Ex.cs_len es i 1 x _ h rfl
 have h2 := flat_get Ex.cs_len es i 2 x _ h rfl
 unfold rowL
 rw [List.getElem?_append_left (by omega), List.getElem?_append_left (by omega), List.getElem?_append_left (by omega)]
 exact ⟨h0, h1, h2⟩
theorem mk0 (w : World) : (Instr.makeSlice 23 (.int .i64 0) (.int .i64 0)).run Tryz.prog w = .ok (.slice (some ⟨w.heap.size, 0, none⟩) 0 0) (w.alloc (.cells (rowL 0 []).toArray 25)) := by kernel_rfl
theorem mk1 (w : World) : (Instr.makeSlice 23 (.int .i64 1) (.int .i64 1)).run Tryz.prog w = .ok (.slice (some ⟨w.heap.size, 0, none⟩) 1 1) (w.alloc (.cells (rowL 1 []).toArray 25)) := by kernel_rfl
theorem mk2 (w : World) : (Instr.makeSlice 23 (.int .i64 2) (.int .i64 2)).run Tryz.prog w = .ok (.slice (some ⟨w.heap.size, 0, none⟩) 2 2) (w.alloc (.cells (rowL 2 []).toArray 25)) := by kernel_rfl
theorem mk3 (w : World) : (Instr.makeSlice 23 (.int .i64 3) (.int .i64 3)).run Tryz.prog w = .ok (.slice (some ⟨w.heap.size, 0, none⟩) 3 3) (w.alloc (.cells (rowL 3 []).toArray 25)) := by kernel_rfl
theorem below_box2 (w : World) (o p : Obj) : Below w.heap.size w ((w.alloc o).alloc p) := ((Below.refl _ _).alloc (Nat.le_refl _) _).alloc (by simp) _
theorem BoxT.cells3 {t : TypeId} {w : World} {k : Nat} {c0 c1 c2 : Value} (h : BoxT t w k #[c0, c1, c2]) : w.cell? ⟨k, 0, none⟩ = some c0 ∧ w.cell? ⟨k, 1, none⟩ = some c1 ∧ w.cell? ⟨k, 2, none⟩ = some c2 := by
 unfold BoxT at h
 simp [World.cell?, h]
theorem made_of (n : Nat) (hn : n ≤ 3) (w : World) : (Instr.makeSlice 23 (.int .i64 n) (.int .i64 n)).run Tryz.prog w = .ok (.slice (some ⟨w.heap.size, 0, none⟩) n n) (w.alloc (.cells (rowL n []).toArray 25)) := by
 match n, hn with
 | 0, _ => exact mk0 w
 | 1, _ => exact mk1 w
 | 2, _ => exact mk2 w
 | 3, _ => exact mk3 w
def CpPost (w : World) (e : Ex) (r : Ending) (w' : World) : Prop := ∃ e', r = .returned e'.val ∧ Sim e e' ∧ In w' e' ∧ Far w.heap.size e' ∧ Below w.heap.size w w'
theorem snd1_len {op n : Int} {k : Nat} (h : snd1 op n k = true) : k ≤ 3 := by
 rcases snd1_parts h with ⟨_, h⟩ | ⟨_, _, h⟩ | ⟨_, _, _, ⟨_, h⟩ | ⟨_, h⟩⟩ <;> omega
def Cpd (W : World) (B : Nat) (l es : List Ex) : Prop := ∀ (j : Nat) (x x' : Ex), l[j]? = some x → es[j]? = some x' → Sim x x' ∧ In W x' ∧ Far B x'
theorem Cpd.below {W W' : World} {B : Nat} {l es : List Ex} (h : Cpd W B l es) (hb : Below W.heap.size W W') : Cpd W' B l es := fun j x x' h1 h2 => ⟨(h j x x' h1 h2).1, (h j x x' h1 h2).2.1.below hb, (h j x x' h1 h2).2.2⟩
theorem Cpd.set {W : World} {B k : Nat} {l es : List Ex} (h : Cpd W B l es) (hk : k < B) (j : Nat) (v : Value) : Cpd (W.setCell ⟨k, j, none⟩ v) B l es := fun i x x' h1 h2 => ⟨(h i x x' h1 h2).1, (h i x x' h1 h2).2.1.set (h i x x' h1 h2).2.2 hk j v, (h i x x' h1 h2).2.2⟩
theorem Cpd.more {W : World} {B : Nat} {l es : List Ex} {x y : Ex} (h : Cpd W B l es) (hx : l[es.length]? = some x) (h1 : Sim x y) (h2 : In W y) (h3 : Far B y) : Cpd W B l (es ++ [y]) := by
 intro j a a' ha ha'
 by_cases hj : j < es.length
 ·rw [List.getElem?_append_left hj] at ha'
  exact h j a a' ha ha'
 ·have hj2 : j = es.length := by
   have := (List.getElem?_eq_some_iff.1 ha').1
   simp at this
   omega
  subst hj2
  rw [hx] at ha
  rw [List.getElem?_append_right (by omega)] at ha'
  simp at ha ha'
  subst ha ha'
  exact ⟨h1, h2, h3⟩
theorem copied_any (e : Ex) : ∀ (w : World), In w e → formed e = true → Calls Tryz.prog 50 #[e.val] w (CpPost w e) := by
 refine Ex.ind (P := fun e => ∀ (w : World), In w e → formed e = true → Calls Tryz.prog 50 #[e.val] w (CpPost w e)) ?_ e
 intro op n a c l ih w hin hf
 have hs : snd1 op n l.length = true := formed_self hf
 have hl3 := snd1_len hs
 have HIH := hide (fun x hx W hW => ih x hx W hW (formed_kid hf hx))
 have HIN := hide hin
 have hm := made_of l.length hl3
 have HB0 : Hid (Below w.heap.size w (((w.alloc (.cells #[.int .i64 op, .int .i64 n, .slice a l.length c] 25)).alloc (.cells #[.int .i64 0, .int .i64 0, .slice none 0 0] 25)).alloc (.cells (rowL l.length []).toArray 25))) := (below_box2 w _ _).alloc (by simp; omega) _
 have HX : Hid (BoxT 25 (((w.alloc (.cells #[.int .i64 op, .int .i64 n, .slice a l.length c] 25)).alloc (.cells #[.int .i64 0, .int .i64 0, .slice none 0 0] 25)).alloc (.cells (rowL l.length []).toArray 25)) w.heap.size #[.int .i64 op, .int .i64 n, .slice a l.length c]) := ((BoxT.new 25 w _).alloc _).alloc _
 have HR : Hid (BoxT 25 (((w.alloc (.cells #[.int .i64 op, .int .i64 n, .slice a l.length c] 25)).alloc (.cells #[.int .i64 0, .int .i64 0, .slice none 0 0] 25)).alloc (.cells (rowL l.length []).toArray 25)) (w.heap.size + 1) #[.int .i64 0, .int .i64 0, .slice none 0 0]) := BoxT.alloc (BoxT.new_at (by simp)) _
 have HN : Hid (BoxT 25 (((w.alloc (.cells #[.int .i64 op, .int .i64 n, .slice a l.length c] 25)).alloc (.cells #[.int .i64 0, .int .i64 0, .slice none 0 0] 25)).alloc (.cells (rowL l.length []).toArray 25)) (w.heap.size + 2) (rowL l.length []).toArray) := BoxT.new_at (by simp)
 clear hs ih hin hf
 unfold Ex.val
 simp only
 go_enter Tryz.func50, Tryz.ntmps50
 go_wp2_with fail
 go_loopg [4, 5, 13] (l.length + 1) (fun gh _ _ iv wr => ∃ (es : List Ex), iv = .int .i64 (es.length : Int) ∧ es.length ≤ l.length ∧ l.length + 1 ≤ gh + es.length ∧ Hid (BoxT 25 wr w.heap.size #[.int .i64 op, .int .i64 n, .slice a l.length c]) ∧ Hid (BoxT 25 wr (w.heap.size + 1) #[.int .i64 0, .int .i64 0, .slice none 0 0]) ∧ Hid (BoxT 25 wr (w.heap.size + 2) (rowL (l.length - es.length) es).toArray) ∧ Hid (Cpd wr (w.heap.size + 3) l es) ∧ Hid (Below w.heap.size w wr))
 case atStart => exact ⟨[], rfl, Nat.zero_le _, by simp, HX, HR, HN, (show Cpd _ _ _ _ from fun j x x' _ h => by simp at h), HB0⟩
 case round =>
  clear HX HR HB0 HN
  obtain ⟨es, rfl, hi, hg, HX, HR, HN, HC, HB⟩ := hrel
  obtain ⟨go, rfl⟩ : ∃ go, gk = go + 1 := ⟨gk - 1, by omega⟩
  obtain ⟨x0, x1, x2⟩ := HX.out.cells3
  obtain ⟨r0, r1, r2⟩ := HR.out.cells3
  have fr := HR.out.free
  by_cases hlt : es.length < l.length
  ·have bt : (es.length : Int) < (l.length : Int) := by omega
   obtain ⟨x, hx⟩ : ∃ x, l[es.length]? = some x := ⟨_, List.getElem?_eq_getElem hlt⟩
   obtain ⟨b, o, ha, e0, e1, e2⟩ := HIN.out.self.at_ es.length x hx
   simp only at ha
   subst ha
   have hlb := cell_lt e0
   have c0 := (HB.out.cell (p := ⟨b, o + es.length * 3, none⟩) hlb).trans e0
   have c1 := (HB.out.cell (p := ⟨b, o + es.length * 3 + 1, none⟩) hlb).trans e1
   have c2 := (HB.out.cell (p := ⟨b, o + es.length * 3 + 2, none⟩) hlb).trans e2
   have hxm : x ∈ l := List.mem_of_getElem? hx
   have HXX := hide hx
   have hbx := below1 wr (.cells #[.int .i64 x.op, .int .i64 x.n, .slice x.a x.l.length x.c] 25)
   have HB1 := hide hbx
   have HCL := hide (HIH.out x hxm _ ((HIN.out.kid hxm).below (HB.out.trans (hbx.mono HB.out.size))))
   obtain ⟨m, hm1⟩ : ∃ m, l.length - es.length = m + 1 := ⟨l.length - es.length - 1, by omega⟩
   have hm2 : l.length - (es.length + 1) = m := by omega
   have HN1 : Hid (BoxT 25 wr (w.heap.size + 2) (rowL (m + 1) es).toArray) := (show BoxT _ _ _ _ from by rw [← hm1]; exact HN.out)
   clear HN e0 e1 e2 hx hxm hbx
   obtain ⟨xo, xn, xa, xc, xl⟩ := x
   unfold Ex.val at HCL
   simp only at c0 c1 c2 HB1 HCL
   go_wp2_with (go_at_call 50; refine HCL.out.mono ?_; rintro r w2 ⟨y, rfl, hsim, hiny, hfar, bb⟩; have HSM := hide hsim; have HIY := hide hiny; have HFY := hide (hfar.mono (show w.heap.size + 3 ≤ _ from by have := HN1.out.lt; simp; omega)); have HB2 := hide (HB1.out.trans (bb.mono HB1.out.size)); have HX2 := hide (HX.out.below HB2.out); have HR2 := hide (HR.out.below HB2.out); have HN2 := hide (HN1.out.below HB2.out); have HC2 := hide (HC.out.below HB2.out); have HW2 := hide (HB.out.trans (HB2.out.mono HB.out.size)); have n0 := (HN2.out.cellAt (es.length * 3)).trans (by simpa using (rowL_get (m := m) (es := es)).1); have n1 := (HN2.out.cellAt (es.length * 3 + 1)).trans (by simpa using (rowL_get (m := m) (es := es)).2.1); have n2 := (HN2.out.cellAt (es.length * 3 + 2)).trans (by simpa using (rowL_get (m := m) (es := es)).2.2); have nf := HN2.out.free; clear bb hsim hiny hfar; obtain ⟨yo, yn, ya, yc, yl⟩ := y; unfold Ex.val)
   go_roundg go
   case rel =>
    have hk : w.heap.size + 1 + 1 < w.heap.size + 3 := by omega
    have hrow := rowL_set (m := m) (es := es) ⟨yo, yn, ya, yc, yl⟩
    simp only at hrow
    have hset := ((HN2.out.set (es.length * 3) (.int .i64 yo)).set (es.length * 3 + 1) (.int .i64 yn)).set (es.length * 3 + 2) (.slice ya yl.length yc)
    rw [hrow] at hset
    refine ⟨es ++ [⟨yo, yn, ya, yc, yl⟩], by simp, by simp; omega, by simp; omega, (((HX2.out.other _ _ (by omega)).other _ _ (by omega)).other _ _ (by omega)), (((HR2.out.other _ _ (by omega)).other _ _ (by omega)).other _ _ (by omega)), ?_, hide ((((HC2.out.more HXX.out HSM.out HIY.out HFY.out).set hk _ _).set hk _ _).set hk _ _), (((HW2.out.setCell (by show w.heap.size ≤ w.heap.size + 1 + 1; omega) _).setCell (by show w.heap.size ≤ w.heap.size + 1 + 1; omega) _).setCell (by show w.heap.size ≤ w.heap.size + 1 + 1; omega) _)⟩
    show BoxT 25 _ _ _
    simp only [List.length_append, List.length_singleton]
    rw [hm2]
    exact hset
   case measure => omega
  ·have bt : ¬ (es.length : Int) < (l.length : Int) := by omega
   have he : es.length = l.length := by omega
   have hL := HIN.out.self
   go_wp2_with fail
   have z := ((((HR.out.set 0 (.int .i64 op)).set 1 (.int .i64 n)).set 2 (.slice (some ⟨w.heap.size + 1 + 1, 0, none⟩) l.length l.length) : BoxT 25 _ _ _)).cells3
   have hk : w.heap.size + 1 < w.heap.size + 3 := by omega
   have hc := ((HC.out.set hk 0 (.int .i64 op)).set hk 1 (.int .i64 n)).set hk 2 (.slice (some ⟨w.heap.size + 1 + 1, 0, none⟩) l.length l.length)
   have hn := ((HN.out.other 0 (.int .i64 op) (show w.heap.size + 2 ≠ w.heap.size + 1 by omega)).other 1 (.int .i64 n) (show w.heap.size + 2 ≠ w.heap.size + 1 by omega)).other 2 (.slice (some ⟨w.heap.size + 1 + 1, 0, none⟩) l.length l.length) (show w.heap.size + 2 ≠ w.heap.size + 1 by omega)
   have hkid : ∀ x' ∈ es, J.In _ x' ∧ Far (w.heap.size + 3) x' := fun x' hx' => by
    obtain ⟨j, hj, rfl⟩ := List.getElem_of_mem hx'
    have := hc j l[j] es[j] (List.getElem?_eq_getElem (by omega)) (List.getElem?_eq_getElem hj)
    exact this.2
   refine bodyPost_ret (v := .agg #[.int .i64 op, .int .i64 n, .slice (some ⟨w.heap.size + 1 + 1, 0, none⟩) l.length l.length]) (by simp [results, Tryz.results50, go_sem, z.1, z.2.1, z.2.2]) rfl ⟨⟨op, n, some ⟨w.heap.size + 1 + 1, 0, none⟩, l.length, es⟩, by unfold Ex.val; rw [he], Sim.mk he.symm (fun j x x' h1 h2 => (hc j x x' h1 h2).1), In.mk ⟨hL.op1, hL.op2, hL.n1, hL.n2, by simp only; omega, by simp only; omega, fun i x hx => ?_⟩ (fun x hx => (hkid x hx).1), Far.mk (by omega) (fun x hx => (hkid x hx).2.mono (by omega)), (((HB.out.setCell (by show w.heap.size ≤ w.heap.size + 1; omega) _).setCell (by show w.heap.size ≤ w.heap.size + 1; omega) _).setCell (by show w.heap.size ≤ w.heap.size + 1; omega) _)⟩
   simp only at hx
   have hg := rowL_at (m := l.length - es.length) hx
   refine ⟨w.heap.size + 1 + 1, 0, rfl, ?_, ?_, ?_⟩
   ·exact (hn.cellAt _).trans (by simpa using hg.1)
   ·exact (hn.cellAt _).trans (by simpa using hg.2.1)
   ·exact (hn.cellAt _).trans (by simpa using hg.2.2)
end Go.Proofs.YtpcbhcdpegbfjaaGreat.J
