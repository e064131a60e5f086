/-
  value: what an expression that is checked is worth.
-/
import Derived.Test.YtjdefmjcnpgjiaaDoorECount
namespace Go.Proofs.YtjdefmjcnpgjiaaDoor
open Go.RowKit

/-- The cells that a list of operands holds. -/
structure Opd (w : World) (b o j : Nat) (x : Ex) : Prop where
  c0 : w.cell? ⟨b, o + j * 3, none⟩ = some (.int .i64 x.op)
  c1 : w.cell? ⟨b, o + j * 3 + 1, none⟩ = some (.int .i64 x.n)
  c2 : w.cell? ⟨b, o + j * 3 + 2, none⟩ = some (.slice x.a x.l.length x.c)
theorem In.opd {w : World} {op n : Int} {a : Option Addr} {c : Nat} {x : Ex} {r : List Ex} (h : In w ⟨op, n, a, c, x :: r⟩) :
    ∃ b o, a = some ⟨b, o, none⟩ ∧ b < w.heap.size ∧ ∀ j y, (x :: r)[j]? = some y → Opd w b o j y := by
  obtain ⟨b, o, h1, h2, _⟩ := h.self.at_ 0 x rfl
  refine ⟨b, o, h1, cell_lt h2, fun j y hy => ?_⟩
  obtain ⟨b', o', g1, g2, g3, g4⟩ := h.self.at_ j y hy
  simp only at h1 g1
  rw [h1] at g1
  simp only [Option.some.injEq, Addr.mk.injEq] at g1
  obtain ⟨rfl, rfl, _⟩ := g1
  exact ⟨g2, g3, g4⟩
theorem Opd.below {w w' : World} {b o j : Nat} {x : Ex} (h : Opd w b o j x) (hb : Below w.heap.size w w') : Opd w' b o j x := by
  have hl := cell_lt h.c0
  exact ⟨(hb.cell (p := ⟨b, _, none⟩) hl).trans h.c0, (hb.cell (p := ⟨b, _, none⟩) hl).trans h.c1, (hb.cell (p := ⟨b, _, none⟩) hl).trans h.c2⟩
/-- A box of three cells. -/
structure Tri (w : World) (b : Nat) (v0 v1 v2 : Value) : Prop where
  c0 : w.cell? ⟨b, 0, none⟩ = some v0
  c1 : w.cell? ⟨b, 1, none⟩ = some v1
  c2 : w.cell? ⟨b, 2, none⟩ = some v2
theorem Tri.below {w w' : World} {b : Nat} {v0 v1 v2 : Value} (h : Tri w b v0 v1 v2) (hb : Below w.heap.size w w') : Tri w' b v0 v1 v2 := by
  have hl := cell_lt h.c0
  exact ⟨(hb.cell (p := ⟨b, _, none⟩) hl).trans h.c0, (hb.cell (p := ⟨b, _, none⟩) hl).trans h.c1, (hb.cell (p := ⟨b, _, none⟩) hl).trans h.c2⟩
theorem Tri.new (w : World) (v0 v1 v2 : Value) (t : TypeId) : Tri (w.alloc (.cells #[v0, v1, v2] t)) w.heap.size v0 v1 v2 := by
  have h : (w.alloc (.cells #[v0, v1, v2] t)).heap[w.heap.size]? = some (.cells #[v0, v1, v2] t) := heap_alloc_new w _
  refine ⟨?_, ?_, ?_⟩ <;> simp only [World.cell?, h] <;> rfl

set_option maxHeartbeats 4000000 in
set_option maxRecDepth 100000 in
theorem value_any (r : Rc) (e : Ex) : ∀ (w : World), In w e → formed e = true →
    Calls Tryd.prog 26 #[e.val, r.val] w fun v w' => v = .returned (.int .i64 (evl r e)) ∧ Below w.heap.size w w' := by
  refine Ex.ind (P := fun e => ∀ (w : World), In w e → formed e = true →
    Calls Tryd.prog 26 #[e.val, r.val] w fun v w' => v = .returned (.int .i64 (evl r e)) ∧ Below w.heap.size w w') ?_ e
  intro op m a c l ih w hin hf
  obtain ⟨rk, rt, rv⟩ := r
  have hs : snd1 op m l.length = true := formed_self hf
  rw [evl_mk]
  have hbb : Below w.heap.size w ((w.alloc (.cells #[.int .i64 op, .int .i64 m, .slice a l.length c] 24)).alloc (.cells #[.int .i64 rk, .int .i64 rt, .int .i64 rv] 26)) :=
    ((Below.refl _ _).alloc (Nat.le_refl _) _).alloc (by simp) _
  have HBB := hide hbb
  clear hbb
  unfold Ex.val Rc.val
  rcases snd1_parts hs with ⟨h1, h2⟩ | ⟨h1, h2, h3⟩ | ⟨h1, h2, h3, h4⟩
  · subst h1
    clear h2 hs
    go_enter Tryd.func26, Tryd.ntmps26
    go_wp2
    go_ret
    exact ⟨ret_int (by simp [evl1]), HBB.out⟩
  · clear h2 h3 hs
    rcases h1 with rfl | rfl | rfl
    all_goals
      go_enter Tryd.func26, Tryd.ntmps26
      go_wp2
      go_ret
      exact ⟨ret_int (by simp [evl1]), HBB.out⟩
  · rcases h4 with ⟨h4, h5⟩ | ⟨h4, h5⟩
    · subst h4
      obtain ⟨x, y, z, rfl⟩ : ∃ x y z, l = [x, y, z] := by
        match l, h5 with
        | [x, y, z], _ => exact ⟨x, y, z, rfl⟩
      obtain ⟨b, o, rfl, hlb, hop⟩ := hin.opd
      have hx := (hop 0 x rfl).below HBB.out
      have hy := (hop 1 y rfl).below HBB.out
      have hz := (hop 2 z rfl).below HBB.out
      have ix := hide ((hin.kid (x := x) (by simp)).below HBB.out)
      have iy := hide ((hin.kid (x := y) (by simp)).below HBB.out)
      have iz := hide ((hin.kid (x := z) (by simp)).below HBB.out)
      have fx := formed_kid hf (x := x) (by simp)
      have fy := formed_kid hf (x := y) (by simp)
      have fz := formed_kid hf (x := z) (by simp)
      have HX := hide hx
      have HY := hide hy
      have HZ := hide hz
      have vx_ := hide (fun w h => ih x (by simp) w h fx)
      have vy_ := hide (fun w h => ih y (by simp) w h fy)
      have vz_ := hide (fun w h => ih z (by simp) w h fz)
      simp only [List.map_cons, List.map_nil]
      generalize evl ⟨rk, rt, rv⟩ x = vx at vx_ ⊢
      generalize evl ⟨rk, rt, rv⟩ y = vy at vy_ ⊢
      generalize evl ⟨rk, rt, rv⟩ z = vz at vz_ ⊢
      have t2 : Tri ((w.alloc (.cells #[.int .i64 14, .int .i64 m, .slice (some ⟨b, o, none⟩) 3 c] 24)).alloc (.cells #[.int .i64 rk, .int .i64 rt, .int .i64 rv] 26)) w.heap.size (.int .i64 14) (.int .i64 m) (.slice (some ⟨b, o, none⟩) 3 c) :=
        (Tri.new w _ _ _ 24).below ((Below.refl _ _).alloc (Nat.le_refl _) _)
      have t3 : Tri ((w.alloc (.cells #[.int .i64 14, .int .i64 m, .slice (some ⟨b, o, none⟩) 3 c] 24)).alloc (.cells #[.int .i64 rk, .int .i64 rt, .int .i64 rv] 26)) (w.heap.size + 1) (.int .i64 rk) (.int .i64 rt) (.int .i64 rv) := by
        have := Tri.new (w.alloc (.cells #[.int .i64 14, .int .i64 m, .slice (some ⟨b, o, none⟩) 3 c] 24)) (.int .i64 rk) (.int .i64 rt) (.int .i64 rv) 26
        simpa using this
      have T2 := hide t2
      have T3 := hide t3
      clear hx hy hz ih t2 t3 hop hs h1 h2 h3 h5 hf hin
      simp only [List.length_cons, List.length_nil, Nat.zero_add, Nat.reduceAdd] at HBB ix iy iz HX HY HZ ⊢
      go_enter Tryd.func26, Tryd.ntmps26
      go_wp2_with fail
      generalize (w.alloc (.cells #[.int .i64 14, .int .i64 m, .slice (some ⟨b, o, none⟩) 3 c] 24)).alloc (.cells #[.int .i64 rk, .int .i64 rt, .int .i64 rv] 26) = w1 at *
      obtain ⟨p0, p1, p2⟩ := T2.out
      obtain ⟨r0, r1, r2⟩ := T3.out
      obtain ⟨x0, x1, x2⟩ := HX.out
      obtain ⟨xo, xn, xa, xc, xl⟩ := x
      simp only [Nat.zero_mul, Nat.add_zero] at x0 x1 x2
      have hxv := hide (vx_.out w1.drew ix.out.drew)
      clear ix vx_
      go_region_held3 (fun w' => w'.cell? ⟨w.heap.size, 2, none⟩ = some (.slice (some ⟨b, o, none⟩) 3 c) ∧ w'.cell? ⟨w.heap.size + 1, 0, none⟩ = some (.int .i64 rk) ∧ w'.cell? ⟨w.heap.size + 1, 1, none⟩ = some (.int .i64 rt) ∧ w'.cell? ⟨w.heap.size + 1, 2, none⟩ = some (.int .i64 rv) ∧ w'.cell? ⟨b, o, none⟩ = some (.int .i64 xo) ∧ w'.cell? ⟨b, o + 1, none⟩ = some (.int .i64 xn) ∧ w'.cell? ⟨b, o + 2, none⟩ = some (.slice xa xl.length xc))
        (first | go_keep | exact ⟨p2, r0, r1, r2, x0, x1, x2⟩ | exact sw2)
        (first | (go_at_call 26; refine hxv.out.mono ?_; clear hxv; rintro e w2 ⟨rfl, hb⟩
                  have hb' : Below w1.heap.size w1 w2 := ((Below.refl _ w1).drew).trans hb
                  have sw2 : w2.cell? ⟨w.heap.size, 2, none⟩ = some (.slice (some ⟨b, o, none⟩) 3 c) ∧ w2.cell? ⟨w.heap.size + 1, 0, none⟩ = some (.int .i64 rk) ∧ w2.cell? ⟨w.heap.size + 1, 1, none⟩ = some (.int .i64 rt) ∧ w2.cell? ⟨w.heap.size + 1, 2, none⟩ = some (.int .i64 rv) ∧ w2.cell? ⟨b, o, none⟩ = some (.int .i64 xo) ∧ w2.cell? ⟨b, o + 1, none⟩ = some (.int .i64 xn) ∧ w2.cell? ⟨b, o + 2, none⟩ = some (.slice xa xl.length xc) :=
                    ⟨(T2.out.below hb').c2, (T3.out.below hb').c0, (T3.out.below hb').c1, (T3.out.below hb').c2, by simpa [Nat.add_assoc] using (HX.out.below hb').c0, by simpa [Nat.add_assoc] using (HX.out.below hb').c1, by simpa [Nat.add_assoc] using (HX.out.below hb').c2⟩))
      have hb1 := hide (HBB.out.trans (hb'.mono HBB.out.size))
      have HB := hide hb'
      obtain ⟨p2, r0, r1, r2, x0, x1, x2⟩ := sw2
      clear hb hb' x0 x1 x2
      by_cases hv : vx = 0
      · have hv1 : (vx == 0) = true := by simp [hv]
        have hv2 : (vx != 0) = false := by simp [hv]
        have HV := hide hv
        clear hv
        have hz2 := HZ.out.below HB.out
        have HZ2 := hide hz2
        obtain ⟨z0, z1, z2⟩ := hz2
        obtain ⟨zo, zn, za, zc, zl⟩ := z
        simp only [Nat.reduceMul, Nat.add_assoc, Nat.reduceAdd] at z0 z1 z2
        have hzv := hide (vz_.out w2.drew (iz.out.below HB.out).drew)
        clear iz
        have G2 := hide (T2.out.below HB.out)
        have G3 := hide (T3.out.below HB.out)
        go_wp2_with fail
        go_region_held3 (fun w' => w'.cell? ⟨w.heap.size, 2, none⟩ = some (.slice (some ⟨b, o, none⟩) 3 c) ∧ w'.cell? ⟨w.heap.size + 1, 0, none⟩ = some (.int .i64 rk) ∧ w'.cell? ⟨w.heap.size + 1, 1, none⟩ = some (.int .i64 rt) ∧ w'.cell? ⟨w.heap.size + 1, 2, none⟩ = some (.int .i64 rv) ∧ w'.cell? ⟨b, o + 6, none⟩ = some (.int .i64 zo) ∧ w'.cell? ⟨b, o + 7, none⟩ = some (.int .i64 zn) ∧ w'.cell? ⟨b, o + 8, none⟩ = some (.slice za zl.length zc))
          (first | go_keep | exact ⟨p2, r0, r1, r2, z0, z1, z2⟩ | exact sw3)
          (first | (go_at_call 26; refine hzv.out.mono ?_; clear hzv; rintro e w3 ⟨rfl, hb⟩
                    have hb' : Below w2.heap.size w2 w3 := ((Below.refl _ w2).drew).trans hb
                    have sw3 : w3.cell? ⟨w.heap.size, 2, none⟩ = some (.slice (some ⟨b, o, none⟩) 3 c) ∧ w3.cell? ⟨w.heap.size + 1, 0, none⟩ = some (.int .i64 rk) ∧ w3.cell? ⟨w.heap.size + 1, 1, none⟩ = some (.int .i64 rt) ∧ w3.cell? ⟨w.heap.size + 1, 2, none⟩ = some (.int .i64 rv) ∧ w3.cell? ⟨b, o + 6, none⟩ = some (.int .i64 zo) ∧ w3.cell? ⟨b, o + 7, none⟩ = some (.int .i64 zn) ∧ w3.cell? ⟨b, o + 8, none⟩ = some (.slice za zl.length zc) :=
                      ⟨(G2.out.below hb').c2, (G3.out.below hb').c0, (G3.out.below hb').c1, (G3.out.below hb').c2, by simpa [Nat.add_assoc] using (HZ2.out.below hb').c0, by simpa [Nat.add_assoc] using (HZ2.out.below hb').c1, by simpa [Nat.add_assoc] using (HZ2.out.below hb').c2⟩))
        clear sw3 hb
        have hb2 := hide (hb1.out.trans (hb'.mono hb1.out.size))
        clear hb'
        go_wp2_with fail
        go_ret
        exact ⟨ret_int (by simp [evl1, HV.out]), hb2.out⟩
      · have hv1 : (vx == 0) = false := by simp [hv]
        have hv2 : (vx != 0) = true := by simp [hv]
        have HV := hide hv
        clear hv
        have hy2 := HY.out.below HB.out
        have HY2 := hide hy2
        obtain ⟨y0, y1, y2⟩ := hy2
        obtain ⟨yo, yn, ya, yc, yl⟩ := y
        simp only [Nat.reduceMul, Nat.add_assoc, Nat.reduceAdd] at y0 y1 y2
        have hyv := hide (vy_.out w2.drew (iy.out.below HB.out).drew)
        clear iy
        have G2 := hide (T2.out.below HB.out)
        have G3 := hide (T3.out.below HB.out)
        go_wp2_with fail
        go_region_held3 (fun w' => w'.cell? ⟨w.heap.size, 2, none⟩ = some (.slice (some ⟨b, o, none⟩) 3 c) ∧ w'.cell? ⟨w.heap.size + 1, 0, none⟩ = some (.int .i64 rk) ∧ w'.cell? ⟨w.heap.size + 1, 1, none⟩ = some (.int .i64 rt) ∧ w'.cell? ⟨w.heap.size + 1, 2, none⟩ = some (.int .i64 rv) ∧ w'.cell? ⟨b, o + 3, none⟩ = some (.int .i64 yo) ∧ w'.cell? ⟨b, o + 4, none⟩ = some (.int .i64 yn) ∧ w'.cell? ⟨b, o + 5, none⟩ = some (.slice ya yl.length yc))
          (first | go_keep | exact ⟨p2, r0, r1, r2, y0, y1, y2⟩ | exact sw3)
          (first | (go_at_call 26; refine hyv.out.mono ?_; clear hyv; rintro e w3 ⟨rfl, hb⟩
                    have hb' : Below w2.heap.size w2 w3 := ((Below.refl _ w2).drew).trans hb
                    have sw3 : w3.cell? ⟨w.heap.size, 2, none⟩ = some (.slice (some ⟨b, o, none⟩) 3 c) ∧ w3.cell? ⟨w.heap.size + 1, 0, none⟩ = some (.int .i64 rk) ∧ w3.cell? ⟨w.heap.size + 1, 1, none⟩ = some (.int .i64 rt) ∧ w3.cell? ⟨w.heap.size + 1, 2, none⟩ = some (.int .i64 rv) ∧ w3.cell? ⟨b, o + 3, none⟩ = some (.int .i64 yo) ∧ w3.cell? ⟨b, o + 4, none⟩ = some (.int .i64 yn) ∧ w3.cell? ⟨b, o + 5, none⟩ = some (.slice ya yl.length yc) :=
                      ⟨(G2.out.below hb').c2, (G3.out.below hb').c0, (G3.out.below hb').c1, (G3.out.below hb').c2, by simpa [Nat.add_assoc] using (HY2.out.below hb').c0, by simpa [Nat.add_assoc] using (HY2.out.below hb').c1, by simpa [Nat.add_assoc] using (HY2.out.below hb').c2⟩))
        clear sw3 hb
        have hb2 := hide (hb1.out.trans (hb'.mono hb1.out.size))
        clear hb'
        go_wp2_with fail
        go_ret
        exact ⟨ret_int (by simp [evl1, HV.out]), hb2.out⟩
    · obtain ⟨x, y, rfl⟩ : ∃ x y, l = [x, y] := by
        match l, h5 with
        | [x, y], _ => exact ⟨x, y, rfl⟩
      obtain ⟨b, o, rfl, hlb, hop⟩ := hin.opd
      have hx := (hop 0 x rfl).below HBB.out
      have hy := (hop 1 y rfl).below HBB.out
      have ix := hide ((hin.kid (x := x) (by simp)).below HBB.out)
      have iy := hide ((hin.kid (x := y) (by simp)).below HBB.out)
      have fx := formed_kid hf (x := x) (by simp)
      have fy := formed_kid hf (x := y) (by simp)
      have HX := hide hx
      have HY := hide hy
      have vx_ := hide (fun w h => ih x (by simp) w h fx)
      have vy_ := hide (fun w h => ih y (by simp) w h fy)
      simp only [List.map_cons, List.map_nil]
      generalize evl ⟨rk, rt, rv⟩ x = vx at vx_ ⊢
      generalize evl ⟨rk, rt, rv⟩ y = vy at vy_ ⊢
      have t2 : Tri ((w.alloc (.cells #[.int .i64 op, .int .i64 m, .slice (some ⟨b, o, none⟩) 2 c] 24)).alloc (.cells #[.int .i64 rk, .int .i64 rt, .int .i64 rv] 26)) w.heap.size (.int .i64 op) (.int .i64 m) (.slice (some ⟨b, o, none⟩) 2 c) :=
        (Tri.new w _ _ _ 24).below ((Below.refl _ _).alloc (Nat.le_refl _) _)
      have t3 : Tri ((w.alloc (.cells #[.int .i64 op, .int .i64 m, .slice (some ⟨b, o, none⟩) 2 c] 24)).alloc (.cells #[.int .i64 rk, .int .i64 rt, .int .i64 rv] 26)) (w.heap.size + 1) (.int .i64 rk) (.int .i64 rt) (.int .i64 rv) := by
        have := Tri.new (w.alloc (.cells #[.int .i64 op, .int .i64 m, .slice (some ⟨b, o, none⟩) 2 c] 24)) (.int .i64 rk) (.int .i64 rt) (.int .i64 rv) 26
        simpa using this
      have T2 := hide t2
      have T3 := hide t3
      have hov := ops_of hs
      have hop1 : ¬ op = 1 := h1
      have hop2 : ¬ op = 2 := by omega
      have hop3 : ¬ op = 3 := by omega
      have hop4 : ¬ op = 4 := by omega
      have hop5 : Hid (5 ≤ op ∧ op ≤ 13) := ⟨by omega, by omega⟩
      clear hx hy ih t2 t3 hop hs h1 h2 h3 h5 hf hin hov
      simp only [List.length_cons, List.length_nil, Nat.zero_add, Nat.reduceAdd] at HBB ix iy HX HY ⊢
      go_enter Tryd.func26, Tryd.ntmps26
      go_wp2_with fail
      generalize (w.alloc (.cells #[.int .i64 op, .int .i64 m, .slice (some ⟨b, o, none⟩) 2 c] 24)).alloc (.cells #[.int .i64 rk, .int .i64 rt, .int .i64 rv] 26) = w1 at *
      obtain ⟨xo, xn, xa, xc, xl⟩ := x
      obtain ⟨yo, yn, ya, yc, yl⟩ := y
      have s1 : w1.cell? ⟨w.heap.size, 0, none⟩ = some (.int .i64 op) ∧ w1.cell? ⟨w.heap.size, 2, none⟩ = some (.slice (some ⟨b, o, none⟩) 2 c) ∧ w1.cell? ⟨w.heap.size + 1, 0, none⟩ = some (.int .i64 rk) ∧ w1.cell? ⟨w.heap.size + 1, 1, none⟩ = some (.int .i64 rt) ∧ w1.cell? ⟨w.heap.size + 1, 2, none⟩ = some (.int .i64 rv) ∧ w1.cell? ⟨b, o, none⟩ = some (.int .i64 xo) ∧ w1.cell? ⟨b, o + 1, none⟩ = some (.int .i64 xn) ∧ w1.cell? ⟨b, o + 2, none⟩ = some (.slice xa xl.length xc) ∧ w1.cell? ⟨b, o + 3, none⟩ = some (.int .i64 yo) ∧ w1.cell? ⟨b, o + 4, none⟩ = some (.int .i64 yn) ∧ w1.cell? ⟨b, o + 5, none⟩ = some (.slice ya yl.length yc) := ⟨(T2.out.below (Below.refl _ _)).c0, (T2.out.below (Below.refl _ _)).c2, (T3.out.below (Below.refl _ _)).c0, (T3.out.below (Below.refl _ _)).c1, (T3.out.below (Below.refl _ _)).c2, by simpa [Nat.add_assoc] using (HX.out.below (Below.refl _ _)).c0, by simpa [Nat.add_assoc] using (HX.out.below (Below.refl _ _)).c1, by simpa [Nat.add_assoc] using (HX.out.below (Below.refl _ _)).c2, by simpa [Nat.add_assoc] using (HY.out.below (Below.refl _ _)).c0, by simpa [Nat.add_assoc] using (HY.out.below (Below.refl _ _)).c1, by simpa [Nat.add_assoc] using (HY.out.below (Below.refl _ _)).c2⟩
      have hxv := hide (vx_.out w1.drew ix.out.drew)
      go_region_held3 (fun w' => w'.cell? ⟨w.heap.size, 0, none⟩ = some (.int .i64 op) ∧ w'.cell? ⟨w.heap.size, 2, none⟩ = some (.slice (some ⟨b, o, none⟩) 2 c) ∧ w'.cell? ⟨w.heap.size + 1, 0, none⟩ = some (.int .i64 rk) ∧ w'.cell? ⟨w.heap.size + 1, 1, none⟩ = some (.int .i64 rt) ∧ w'.cell? ⟨w.heap.size + 1, 2, none⟩ = some (.int .i64 rv) ∧ w'.cell? ⟨b, o, none⟩ = some (.int .i64 xo) ∧ w'.cell? ⟨b, o + 1, none⟩ = some (.int .i64 xn) ∧ w'.cell? ⟨b, o + 2, none⟩ = some (.slice xa xl.length xc) ∧ w'.cell? ⟨b, o + 3, none⟩ = some (.int .i64 yo) ∧ w'.cell? ⟨b, o + 4, none⟩ = some (.int .i64 yn) ∧ w'.cell? ⟨b, o + 5, none⟩ = some (.slice ya yl.length yc))
        (first | go_keep | exact s1 | exact s2 | exact s3)
        (first
          | (go_at_call 26; refine hxv.out.mono ?_; clear hxv; rintro e w2 ⟨rfl, hb⟩
             have hb1 : Below w1.heap.size w1 w2 := ((Below.refl _ w1).drew).trans hb
             have s2 : w2.cell? ⟨w.heap.size, 0, none⟩ = some (.int .i64 op) ∧ w2.cell? ⟨w.heap.size, 2, none⟩ = some (.slice (some ⟨b, o, none⟩) 2 c) ∧ w2.cell? ⟨w.heap.size + 1, 0, none⟩ = some (.int .i64 rk) ∧ w2.cell? ⟨w.heap.size + 1, 1, none⟩ = some (.int .i64 rt) ∧ w2.cell? ⟨w.heap.size + 1, 2, none⟩ = some (.int .i64 rv) ∧ w2.cell? ⟨b, o, none⟩ = some (.int .i64 xo) ∧ w2.cell? ⟨b, o + 1, none⟩ = some (.int .i64 xn) ∧ w2.cell? ⟨b, o + 2, none⟩ = some (.slice xa xl.length xc) ∧ w2.cell? ⟨b, o + 3, none⟩ = some (.int .i64 yo) ∧ w2.cell? ⟨b, o + 4, none⟩ = some (.int .i64 yn) ∧ w2.cell? ⟨b, o + 5, none⟩ = some (.slice ya yl.length yc) := ⟨(T2.out.below hb1).c0, (T2.out.below hb1).c2, (T3.out.below hb1).c0, (T3.out.below hb1).c1, (T3.out.below hb1).c2, by simpa [Nat.add_assoc] using (HX.out.below hb1).c0, by simpa [Nat.add_assoc] using (HX.out.below hb1).c1, by simpa [Nat.add_assoc] using (HX.out.below hb1).c2, by simpa [Nat.add_assoc] using (HY.out.below hb1).c0, by simpa [Nat.add_assoc] using (HY.out.below hb1).c1, by simpa [Nat.add_assoc] using (HY.out.below hb1).c2⟩
             have HB1 := hide hb1
             have hyv := hide (vy_.out w2 (iy.out.below hb1))
             clear hb hb1)
          | (go_at_call 26; refine hyv.out.mono ?_; clear hyv; rintro e w3 ⟨rfl, hb⟩
             have hb1 : Below w1.heap.size w1 w3 := HB1.out.trans (hb.mono HB1.out.size)
             have s3 : w3.cell? ⟨w.heap.size, 0, none⟩ = some (.int .i64 op) ∧ w3.cell? ⟨w.heap.size, 2, none⟩ = some (.slice (some ⟨b, o, none⟩) 2 c) ∧ w3.cell? ⟨w.heap.size + 1, 0, none⟩ = some (.int .i64 rk) ∧ w3.cell? ⟨w.heap.size + 1, 1, none⟩ = some (.int .i64 rt) ∧ w3.cell? ⟨w.heap.size + 1, 2, none⟩ = some (.int .i64 rv) ∧ w3.cell? ⟨b, o, none⟩ = some (.int .i64 xo) ∧ w3.cell? ⟨b, o + 1, none⟩ = some (.int .i64 xn) ∧ w3.cell? ⟨b, o + 2, none⟩ = some (.slice xa xl.length xc) ∧ w3.cell? ⟨b, o + 3, none⟩ = some (.int .i64 yo) ∧ w3.cell? ⟨b, o + 4, none⟩ = some (.int .i64 yn) ∧ w3.cell? ⟨b, o + 5, none⟩ = some (.slice ya yl.length yc) := ⟨(T2.out.below hb1).c0, (T2.out.below hb1).c2, (T3.out.below hb1).c0, (T3.out.below hb1).c1, (T3.out.below hb1).c2, by simpa [Nat.add_assoc] using (HX.out.below hb1).c0, by simpa [Nat.add_assoc] using (HX.out.below hb1).c1, by simpa [Nat.add_assoc] using (HX.out.below hb1).c2, by simpa [Nat.add_assoc] using (HY.out.below hb1).c0, by simpa [Nat.add_assoc] using (HY.out.below hb1).c1, by simpa [Nat.add_assoc] using (HY.out.below hb1).c2⟩
             have HB2 := hide hb1
             clear hb hb1)
          | (go_at_call 31; refine (ofBoth_any _ _ _ hop5.out _).mono ?_; rintro e w4 ⟨rfl, rfl⟩))
      have HB3 := hide (HBB.out.trans (HB2.out.mono HBB.out.size))
      go_wp2_with fail
      go_ret
      exact ⟨ret_int (by simp [evl1, hop1, hop2, hop3, hop4, h4]), HB3.out⟩
end Go.Proofs.YtjdefmjcnpgjiaaDoor
