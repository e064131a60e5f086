/-
  same: the law's own comparison of two expressions.
-/
import Derived.Test.YtjdefmjcnpgjiaaDoorERef
namespace Go.Proofs.YtjdefmjcnpgjiaaDoor
open Go.RowKit

theorem zip_drop (l m : List Ex) (i : Nat) (x y : Ex) (hx : l[i]? = some x) (hy : m[i]? = some y) :
    ((((l.drop i).map alk).zip (m.drop i)).all fun p => p.1 p.2) = (alk x y && ((((l.drop (i + 1)).map alk).zip (m.drop (i + 1))).all fun p => p.1 p.2)) := by
  obtain ⟨hi, hx⟩ := List.getElem?_eq_some_iff.1 hx
  obtain ⟨hj, hy⟩ := List.getElem?_eq_some_iff.1 hy
  rw [List.drop_eq_getElem_cons hi, List.drop_eq_getElem_cons hj, hx, hy, List.map_cons, List.zip_cons_cons, List.all_cons]

set_option maxHeartbeats 4000000 in
set_option maxRecDepth 100000 in
theorem same_any (a : Ex) : ∀ (w : World) (b : Ex), In w a → In w b →
    Calls Tryd.prog 18 #[a.val, b.val] w fun r w' => r = .returned (.bool (alk a b)) ∧ Below w.heap.size w w' := by
  refine Ex.ind (P := fun a => ∀ (w : World) (b : Ex), In w a → In w b →
    Calls Tryd.prog 18 #[a.val, b.val] w fun r w' => r = .returned (.bool (alk a b)) ∧ Below w.heap.size w w') ?_ a
  intro op m ad c l ih w b hin hib
  obtain ⟨op', m', ad', c', l'⟩ := b
  have hlen := hin.self.len
  have hcap := hin.self.cap
  have hlen' := hib.self.len
  have hcap' := hib.self.cap
  simp only at hlen hcap hlen' hcap'
  rw [alk_mk]
  simp only
  have hbb : Below w.heap.size w ((w.alloc (.cells #[.int .i64 op, .int .i64 m, .slice ad l.length c] 24)).alloc (.cells #[.int .i64 op', .int .i64 m', .slice ad' l'.length c'] 24)) :=
    ((Below.refl _ _).alloc (Nat.le_refl _) _).alloc (by simp) _
  have HB := hide hbb
  have t2 : Tri ((w.alloc (.cells #[.int .i64 op, .int .i64 m, .slice ad l.length c] 24)).alloc (.cells #[.int .i64 op', .int .i64 m', .slice ad' l'.length c'] 24)) w.heap.size (.int .i64 op) (.int .i64 m) (.slice ad l.length c) :=
    (Tri.new w _ _ _ 24).below ((Below.refl _ _).alloc (Nat.le_refl _) _)
  have t3 : Tri ((w.alloc (.cells #[.int .i64 op, .int .i64 m, .slice ad l.length c] 24)).alloc (.cells #[.int .i64 op', .int .i64 m', .slice ad' l'.length c'] 24)) (w.heap.size + 1) (.int .i64 op') (.int .i64 m') (.slice ad' l'.length c') := by
    have := Tri.new (w.alloc (.cells #[.int .i64 op, .int .i64 m, .slice ad l.length c] 24)) (.int .i64 op') (.int .i64 m') (.slice ad' l'.length c') 24
    simpa using this
  have T2 := hide t2
  have T3 := hide t3
  have HIN := hide hin
  have HIB := hide hib
  have IH := hide ih
  clear hbb t2 t3 hin hib ih
  unfold Ex.val
  by_cases h1 : op = op'
  rotate_left
  · have g1 : (op == op') = false := by simp [h1]
    have g2 : (op != op') = true := by simp [h1]
    have g3 : decide (op = op') = false := by simp [h1]
    rw [g3]
    simp only [Bool.false_and]
    go_enter Tryd.func18, Tryd.ntmps18
    go_wp2
    go_ret
    exact ⟨rfl, HB.out⟩
  subst h1
  by_cases h2 : m = m'
  rotate_left
  · have g1 : (m == m') = false := by simp [h2]
    have g2 : (m != m') = true := by simp [h2]
    have g3 : decide (m = m') = false := by simp [h2]
    rw [g3]
    simp only [Bool.and_false, Bool.false_and]
    go_enter Tryd.func18, Tryd.ntmps18
    go_wp2
    go_ret
    exact ⟨rfl, HB.out⟩
  subst h2
  by_cases h3 : l.length = l'.length
  rotate_left
  · have g1 : ((l.length : Int) == (l'.length : Int)) = false := by simp; omega
    have g2 : ((l.length : Int) != (l'.length : Int)) = true := by simp; omega
    have g3 : decide (l.length = l'.length) = false := by simp [h3]
    rw [g3]
    simp only [Bool.and_false, Bool.false_and]
    go_enter Tryd.func18, Tryd.ntmps18
    go_wp2
    go_ret
    exact ⟨rfl, HB.out⟩
  have g3 : decide (l.length = l'.length) = true := by simp [h3]
  rw [g3]
  simp only [decide_true, Bool.true_and]
  obtain ⟨R, hR⟩ : ∃ R, (((l.map alk).zip l').all fun p => p.1 p.2) = R := ⟨_, rfl⟩
  rw [hR]
  have HR : Hid ((((l.drop 0).map alk).zip (l'.drop 0)).all (fun p => p.1 p.2) = R) := hR
  obtain ⟨N, hN⟩ : ∃ N, l.length = N := ⟨_, rfl⟩
  have hN' : l'.length = N := by omega
  have HN := hide (And.intro hN hN')
  rw [hN] at hlen hcap T2 HB
  rw [hN'] at hcap' T3 HB
  rw [hN] at T3
  rw [hN'] at T2
  rw [hN, hN']
  clear hR h3 g3 hlen' hN hN'
  go_enter Tryd.func18, Tryd.ntmps18
  go_wp2_with fail
  go_loopw [5] (fun i wr => ∃ (j : Nat), j ≤ N ∧ i = .int .i64 j ∧ Below w.heap.size w wr ∧ Hid (Tri wr w.heap.size (.int .i64 op) (.int .i64 m) (.slice ad N c)) ∧ Hid (Tri wr (w.heap.size + 1) (.int .i64 op) (.int .i64 m) (.slice ad' N c')) ∧ Hid ((((l.drop j).map alk).zip (l'.drop j)).all (fun p => p.1 p.2) = R)) (fun i _ => N - (intOf i).toNat)
  case atStart => exact ⟨0, Nat.zero_le _, rfl, HB.out, T2.out, T3.out, HR⟩
  case round =>
    obtain ⟨j, hj, rfl, hbel, HT, HU, HC⟩ := hrel
    obtain ⟨p0, p1, p2⟩ := HT.out
    obtain ⟨r0, r1, r2⟩ := HU.out
    by_cases hlt : j < N
    · obtain ⟨x, hx⟩ : ∃ x, l[j]? = some x := ⟨_, List.getElem?_eq_getElem (by have := HN.out.1; omega)⟩
      obtain ⟨y, hy⟩ : ∃ y, l'[j]? = some y := ⟨_, List.getElem?_eq_getElem (by have := HN.out.2; omega)⟩
      obtain ⟨b, o, ha, e0, e1, e2⟩ := HIN.out.self.at_ j x hx
      obtain ⟨b', o', ha', e0', e1', e2'⟩ := HIB.out.self.at_ j y hy
      simp only at ha ha'
      subst ha ha'
      have hlb := cell_lt e0
      have hlb' := cell_lt e0'
      have X : Hid (∀ w', Below w.heap.size w w' → w'.cell? ⟨b, o + j * 3, none⟩ = some (.int .i64 x.op) ∧ w'.cell? ⟨b, o + j * 3 + 1, none⟩ = some (.int .i64 x.n) ∧ w'.cell? ⟨b, o + j * 3 + 2, none⟩ = some (.slice x.a x.l.length x.c)) :=
        fun w' h => ⟨(h.cell (p := ⟨b, _, none⟩) hlb).trans e0, (h.cell (p := ⟨b, _, none⟩) hlb).trans e1, (h.cell (p := ⟨b, _, none⟩) hlb).trans e2⟩
      have Y : Hid (∀ w', Below w.heap.size w w' → w'.cell? ⟨b', o' + j * 3, none⟩ = some (.int .i64 y.op) ∧ w'.cell? ⟨b', o' + j * 3 + 1, none⟩ = some (.int .i64 y.n) ∧ w'.cell? ⟨b', o' + j * 3 + 2, none⟩ = some (.slice y.a y.l.length y.c)) :=
        fun w' h => ⟨(h.cell (p := ⟨b', _, none⟩) hlb').trans e0', (h.cell (p := ⟨b', _, none⟩) hlb').trans e1', (h.cell (p := ⟨b', _, none⟩) hlb').trans e2'⟩
      have hxm : x ∈ l := List.mem_of_getElem? hx
      have hym : y ∈ l' := List.mem_of_getElem? hy
      have HQ := HC.out
      rw [zip_drop l l' j x y hx hy] at HQ
      have HQ' := hide HQ
      have hcall := hide (IH.out x hxm wr.drew y ((HIN.out.kid hxm).below hbel).drew ((HIB.out.kid hym).below hbel).drew)
      clear HC HQ hx hy hxm hym e0 e1 e2 e0' e1' e2'
      obtain ⟨xo, xn, xa, xc, xl⟩ := x
      obtain ⟨yo, yn, ya, yc, yl⟩ := y
      simp only at X Y
      obtain ⟨c0, c1, c2⟩ := X.out wr hbel
      obtain ⟨d0, d1, d2⟩ := Y.out wr hbel
      generalize alk ⟨xo, xn, xa, xc, xl⟩ ⟨yo, yn, ya, yc, yl⟩ = q at *
      go_wp2_with fail
      go_region_held3 (fun w' => w'.cell? ⟨w.heap.size, 2, none⟩ = some (.slice (some ⟨b, o, none⟩) N c) ∧ w'.cell? ⟨w.heap.size + 1, 2, none⟩ = some (.slice (some ⟨b', o', none⟩) N c') ∧ w'.cell? ⟨b, o + j * 3, none⟩ = some (.int .i64 xo) ∧ w'.cell? ⟨b, o + j * 3 + 1, none⟩ = some (.int .i64 xn) ∧ w'.cell? ⟨b, o + j * 3 + 2, none⟩ = some (.slice xa xl.length xc) ∧
          w'.cell? ⟨b', o' + j * 3, none⟩ = some (.int .i64 yo) ∧ w'.cell? ⟨b', o' + j * 3 + 1, none⟩ = some (.int .i64 yn) ∧ w'.cell? ⟨b', o' + j * 3 + 2, none⟩ = some (.slice ya yl.length yc))
        (first | go_keep | exact ⟨p2, r2, c0, c1, c2, d0, d1, d2⟩ | exact s3)
        (first | (go_at_call 18; refine hcall.out.mono ?_; clear hcall; rintro e w3 ⟨rfl, hb⟩
                  have hb' : Below wr.heap.size wr w3 := ((Below.refl _ wr).drew).trans hb
                  have hb4 := hbel.trans (hb'.mono hbel.size)
                  obtain ⟨C0, C1, C2⟩ := X.out w3 hb4
                  obtain ⟨D0, D1, D2⟩ := Y.out w3 hb4
                  have s3 : w3.cell? ⟨w.heap.size, 2, none⟩ = some (.slice (some ⟨b, o, none⟩) N c) ∧ w3.cell? ⟨w.heap.size + 1, 2, none⟩ = some (.slice (some ⟨b', o', none⟩) N c') ∧ w3.cell? ⟨b, o + j * 3, none⟩ = some (.int .i64 xo) ∧ w3.cell? ⟨b, o + j * 3 + 1, none⟩ = some (.int .i64 xn) ∧ w3.cell? ⟨b, o + j * 3 + 2, none⟩ = some (.slice xa xl.length xc) ∧
          w3.cell? ⟨b', o' + j * 3, none⟩ = some (.int .i64 yo) ∧ w3.cell? ⟨b', o' + j * 3 + 1, none⟩ = some (.int .i64 yn) ∧ w3.cell? ⟨b', o' + j * 3 + 2, none⟩ = some (.slice ya yl.length yc) :=
                    ⟨(HT.out.below hb').c2, (HU.out.below hb').c2, C0, C1, C2, D0, D1, D2⟩
                  have HB3 := hide hb'
                  have HB4 := hide hb4
                  clear hb hb' hb4 C0 C1 C2 D0 D1 D2))
      clear s3
      cases q
      · go_wp2_with fail
        go_ret
        exact ⟨ret_bool (by have h := HQ'.out; rw [Bool.false_and] at h; exact h), HB4.out⟩
      · go_wp2_with fail
        go_roundw
        case rel => exact ⟨j + 1, by omega, by go_num, HB4.out, HT.out.below HB3.out, HU.out.below HB3.out, by have h := HQ'.out; rw [Bool.true_and] at h; exact h⟩
        case measure => simp [intOf]; omega
    · have hf : Hid (true = R) := by
        have HQ := HC.out
        rw [List.drop_eq_nil_of_le (by have := HN.out.1; omega)] at HQ
        exact HQ
      go_wp2_with fail
      go_ret
      exact ⟨ret_bool hf.out, hbel⟩
end Go.Proofs.YtjdefmjcnpgjiaaDoor
