/-
  Texts in build order: OCopy.
-/
import Derived.Test.YtpcbhcdpegbfjaaGreatM07
/-
  copied, own: an expression in memory of its own.
-/
namespace Go.Proofs.YtpcbhcdpegbfjaaGreat.J
open Go.RowKit

def Far (B : Nat) (e : Ex) : Prop := ∀ x ∈ e.sub, ∀ b o, x.a = some ⟨b, o, none⟩ → B ≤ b
theorem Far.mono {B B' : Nat} {e : Ex} (h : Far B e) (hb : B' ≤ B) : Far B' e := fun x hx b o e => Nat.le_trans hb (h x hx b o e)
theorem Far.mk {B : Nat} {op n : Int} {b o c : Nat} {l : List Ex} (hb : B ≤ b) (h : ∀ x ∈ l, Far B x) : Far B ⟨op, n, some ⟨b, o, none⟩, c, l⟩ := by
  intro x hx
  rw [Ex.sub_eq] at hx
  rcases List.mem_cons.1 hx with rfl | hx
  · intro b' o' e
    simp only [Option.some.injEq, Addr.mk.injEq] at e
    omega
  · obtain ⟨z, hz, hx⟩ := List.mem_flatMap.1 hx
    exact h z hz x hx
theorem In.set {w : World} {e : Ex} (h : In w e) {B k : Nat} (hf : Far B e) (hk : k < B) (j : Nat) (v : Value) : In (w.setCell ⟨k, j, none⟩ v) e := by
  intro x hx
  have hL := h x hx
  refine ⟨hL.op1, hL.op2, hL.n1, hL.n2, hL.len, hL.cap, fun i y hy => ?_⟩
  obtain ⟨b, o, e1, c1, c2, c3⟩ := hL.at_ i y hy
  have hb := hf x hx b o e1
  have he : (w.setCell ⟨k, j, none⟩ v).heap[b]? = w.heap[b]? := Below.heap_setCell w ⟨k, j, none⟩ v b (by show b ≠ k; omega)
  refine ⟨b, o, e1, ?_, ?_, ?_⟩ <;> simp only [World.cell?, he] at * <;> assumption
def Ex.cs (e : Ex) : List Value := [.int .i64 e.op, .int .i64 e.n, .slice e.a e.l.length e.c]
theorem Ex.cs_len (e : Ex) : e.cs.length = 3 := rfl
def zeros : Nat → List Value
  | 0 => []
  | n + 1 => .int .i64 0 :: .int .i64 0 :: .slice none 0 0 :: zeros n
def rowL (m : Nat) (es : List Ex) : List Value := es.flatMap Ex.cs ++ zeros m
theorem rowL_get {m : Nat} {es : List Ex} : (rowL (m + 1) es)[es.length * 3]? = some (.int .i64 0) ∧ (rowL (m + 1) es)[es.length * 3 + 1]? = some (.int .i64 0) ∧ (rowL (m + 1) es)[es.length * 3 + 2]? = some (.slice none 0 0) := by
  have hl := flat_size Ex.cs_len es
  unfold rowL
  rw [List.getElem?_append_right (by omega), List.getElem?_append_right (by omega), List.getElem?_append_right (by omega), hl]
  simp [zeros]
theorem rowL_set {m : Nat} {es : List Ex} (y : Ex) : ((((rowL (m + 1) es).toArray.setIfInBounds (es.length * 3) (.int .i64 y.op)).setIfInBounds (es.length * 3 + 1) (.int .i64 y.n)).setIfInBounds (es.length * 3 + 2) (.slice y.a y.l.length y.c)) = (rowL m (es ++ [y])).toArray := by
  have hl := flat_size Ex.cs_len es
  unfold rowL
  simp only [List.setIfInBounds_toArray]
  congr 1
  rw [List.set_append_right _ _ (by omega), List.set_append_right _ _ (by omega), List.set_append_right _ _ (by omega), hl]
  simp [zeros, Ex.cs]
theorem rowL_at {m : Nat} {es : List Ex} {i : Nat} {x : Ex} (h : es[i]? = some x) : (rowL m es)[i * 3]? = some (.int .i64 x.op) ∧ (rowL m es)[i * 3 + 1]? = some (.int .i64 x.n) ∧ (rowL m es)[i * 3 + 2]? = some (.slice x.a x.l.length x.c) := by
  have hl := flat_size Ex.cs_len es
  have hi := (List.getElem?_eq_some_iff.1 h).1
  have h0 := flat_get Ex.cs_len es i 0 x _ h rfl
  have h1 := flat_get Ex.cs_len es i 1 x _ h rfl
  have h2 := flat_get Ex.cs_len es i 2 x _ h rfl
  unfold rowL
  rw [List.getElem?_append_left (by omega), List.getElem?_append_left (by omega), List.getElem?_append_left (by omega)]
  exact ⟨h0, h1, h2⟩
theorem mk0 (w : World) : (Instr.makeSlice 23 (.int .i64 0) (.int .i64 0)).run Tryz.prog w = .ok (.slice (some ⟨w.heap.size, 0, none⟩) 0 0) (w.alloc (.cells (rowL 0 []).toArray 25)) := by kernel_rfl
theorem mk1 (w : World) : (Instr.makeSlice 23 (.int .i64 1) (.int .i64 1)).run Tryz.prog w = .ok (.slice (some ⟨w.heap.size, 0, none⟩) 1 1) (w.alloc (.cells (rowL 1 []).toArray 25)) := by kernel_rfl
theorem mk2 (w : World) : (Instr.makeSlice 23 (.int .i64 2) (.int .i64 2)).run Tryz.prog w = .ok (.slice (some ⟨w.heap.size, 0, none⟩) 2 2) (w.alloc (.cells (rowL 2 []).toArray 25)) := by kernel_rfl
theorem mk3 (w : World) : (Instr.makeSlice 23 (.int .i64 3) (.int .i64 3)).run Tryz.prog w = .ok (.slice (some ⟨w.heap.size, 0, none⟩) 3 3) (w.alloc (.cells (rowL 3 []).toArray 25)) := by kernel_rfl
theorem below_box2 (w : World) (o p : Obj) : Below w.heap.size w ((w.alloc o).alloc p) := ((Below.refl _ _).alloc (Nat.le_refl _) _).alloc (by simp) _
theorem BoxT.cells3 {t : TypeId} {w : World} {k : Nat} {c0 c1 c2 : Value} (h : BoxT t w k #[c0, c1, c2]) : w.cell? ⟨k, 0, none⟩ = some c0 ∧ w.cell? ⟨k, 1, none⟩ = some c1 ∧ w.cell? ⟨k, 2, none⟩ = some c2 := by
  unfold BoxT at h
  simp [World.cell?, h]
theorem made_of (n : Nat) (hn : n ≤ 3) (w : World) : (Instr.makeSlice 23 (.int .i64 n) (.int .i64 n)).run Tryz.prog w = .ok (.slice (some ⟨w.heap.size, 0, none⟩) n n) (w.alloc (.cells (rowL n []).toArray 25)) := by
  match n, hn with
  | 0, _ => exact mk0 w
  | 1, _ => exact mk1 w
  | 2, _ => exact mk2 w
  | 3, _ => exact mk3 w
def CpPost (w : World) (e : Ex) (r : Ending) (w' : World) : Prop := ∃ e', r = .returned e'.val ∧ Sim e e' ∧ In w' e' ∧ Far w.heap.size e' ∧ Below w.heap.size w w'
theorem snd1_len {op n : Int} {k : Nat} (h : snd1 op n k = true) : k ≤ 3 := by
  rcases snd1_parts h with ⟨_, h⟩ | ⟨_, _, h⟩ | ⟨_, _, _, ⟨_, h⟩ | ⟨_, h⟩⟩ <;> omega
def Cpd (W : World) (B : Nat) (l es : List Ex) : Prop := ∀ (j : Nat) (x x' : Ex), l[j]? = some x → es[j]? = some x' → Sim x x' ∧ In W x' ∧ Far B x'
theorem Cpd.below {W W' : World} {B : Nat} {l es : List Ex} (h : Cpd W B l es) (hb : Below W.heap.size W W') : Cpd W' B l es := fun j x x' h1 h2 => ⟨(h j x x' h1 h2).1, (h j x x' h1 h2).2.1.below hb, (h j x x' h1 h2).2.2⟩
theorem Cpd.set {W : World} {B k : Nat} {l es : List Ex} (h : Cpd W B l es) (hk : k < B) (j : Nat) (v : Value) : Cpd (W.setCell ⟨k, j, none⟩ v) B l es := fun i x x' h1 h2 => ⟨(h i x x' h1 h2).1, (h i x x' h1 h2).2.1.set (h i x x' h1 h2).2.2 hk j v, (h i x x' h1 h2).2.2⟩
theorem Cpd.more {W : World} {B : Nat} {l es : List Ex} {x y : Ex} (h : Cpd W B l es) (hx : l[es.length]? = some x) (h1 : Sim x y) (h2 : In W y) (h3 : Far B y) : Cpd W B l (es ++ [y]) := by
  intro j a a' ha ha'
  by_cases hj : j < es.length
  · rw [List.getElem?_append_left hj] at ha'
    exact h j a a' ha ha'
  · have hj2 : j = es.length := by
      have := (List.getElem?_eq_some_iff.1 ha').1
      simp at this
      omega
    subst hj2
    rw [hx] at ha
    rw [List.getElem?_append_right (by omega)] at ha'
    simp at ha ha'
    subst ha ha'
    exact ⟨h1, h2, h3⟩
set_option maxHeartbeats 4000000 in
set_option maxRecDepth 100000 in
theorem copied_any (e : Ex) : ∀ (w : World), In w e → formed e = true → Calls Tryz.prog 50 #[e.val] w (CpPost w e) := by
  refine Ex.ind (P := fun e => ∀ (w : World), In w e → formed e = true → Calls Tryz.prog 50 #[e.val] w (CpPost w e)) ?_ e
  intro op n a c l ih w hin hf
  have hs : snd1 op n l.length = true := formed_self hf
  have hl3 := snd1_len hs
  have HIH := hide (fun x hx W hW => ih x hx W hW (formed_kid hf hx))
  have HIN := hide hin
  have hm := made_of l.length hl3
  have HB0 : Hid (Below w.heap.size w (((w.alloc (.cells #[.int .i64 op, .int .i64 n, .slice a l.length c] 25)).alloc (.cells #[.int .i64 0, .int .i64 0, .slice none 0 0] 25)).alloc (.cells (rowL l.length []).toArray 25))) := (below_box2 w _ _).alloc (by simp; omega) _
  have HX : Hid (BoxT 25 (((w.alloc (.cells #[.int .i64 op, .int .i64 n, .slice a l.length c] 25)).alloc (.cells #[.int .i64 0, .int .i64 0, .slice none 0 0] 25)).alloc (.cells (rowL l.length []).toArray 25)) w.heap.size #[.int .i64 op, .int .i64 n, .slice a l.length c]) := ((BoxT.new 25 w _).alloc _).alloc _
  have HR : Hid (BoxT 25 (((w.alloc (.cells #[.int .i64 op, .int .i64 n, .slice a l.length c] 25)).alloc (.cells #[.int .i64 0, .int .i64 0, .slice none 0 0] 25)).alloc (.cells (rowL l.length []).toArray 25)) (w.heap.size + 1) #[.int .i64 0, .int .i64 0, .slice none 0 0]) := BoxT.alloc (BoxT.new_at (by simp)) _
  have HN : Hid (BoxT 25 (((w.alloc (.cells #[.int .i64 op, .int .i64 n, .slice a l.length c] 25)).alloc (.cells #[.int .i64 0, .int .i64 0, .slice none 0 0] 25)).alloc (.cells (rowL l.length []).toArray 25)) (w.heap.size + 2) (rowL l.length []).toArray) := BoxT.new_at (by simp)
  clear hs ih hin hf
  unfold Ex.val
  simp only
  go_enter Tryz.func50, Tryz.ntmps50
  go_wp2_with fail
  go_loopg [4, 5, 13] (l.length + 1) (fun gh _ _ iv wr => ∃ (es : List Ex), iv = .int .i64 (es.length : Int) ∧ es.length ≤ l.length ∧ l.length + 1 ≤ gh + es.length ∧ Hid (BoxT 25 wr w.heap.size #[.int .i64 op, .int .i64 n, .slice a l.length c]) ∧ Hid (BoxT 25 wr (w.heap.size + 1) #[.int .i64 0, .int .i64 0, .slice none 0 0]) ∧ Hid (BoxT 25 wr (w.heap.size + 2) (rowL (l.length - es.length) es).toArray) ∧ Hid (Cpd wr (w.heap.size + 3) l es) ∧ Hid (Below w.heap.size w wr))
  case atStart => exact ⟨[], rfl, Nat.zero_le _, by simp, HX, HR, HN, (show Cpd _ _ _ _ from fun j x x' _ h => by simp at h), HB0⟩
  case round =>
    clear HX HR HB0 HN
    obtain ⟨es, rfl, hi, hg, HX, HR, HN, HC, HB⟩ := hrel
    obtain ⟨go, rfl⟩ : ∃ go, gk = go + 1 := ⟨gk - 1, by omega⟩
    obtain ⟨x0, x1, x2⟩ := HX.out.cells3
    obtain ⟨r0, r1, r2⟩ := HR.out.cells3
    have fr := HR.out.free
    by_cases hlt : es.length < l.length
    · have bt : (es.length : Int) < (l.length : Int) := by omega
      obtain ⟨x, hx⟩ : ∃ x, l[es.length]? = some x := ⟨_, List.getElem?_eq_getElem hlt⟩
      obtain ⟨b, o, ha, e0, e1, e2⟩ := HIN.out.self.at_ es.length x hx
      simp only at ha
      subst ha
      have hlb := cell_lt e0
      have c0 := (HB.out.cell (p := ⟨b, o + es.length * 3, none⟩) hlb).trans e0
      have c1 := (HB.out.cell (p := ⟨b, o + es.length * 3 + 1, none⟩) hlb).trans e1
      have c2 := (HB.out.cell (p := ⟨b, o + es.length * 3 + 2, none⟩) hlb).trans e2
      have hxm : x ∈ l := List.mem_of_getElem? hx
      have HXX := hide hx
      have hbx := below1 wr (.cells #[.int .i64 x.op, .int .i64 x.n, .slice x.a x.l.length x.c] 25)
      have HB1 := hide hbx
      have HCL := hide (HIH.out x hxm _ ((HIN.out.kid hxm).below (HB.out.trans (hbx.mono HB.out.size))))
      obtain ⟨m, hm1⟩ : ∃ m, l.length - es.length = m + 1 := ⟨l.length - es.length - 1, by omega⟩
      have hm2 : l.length - (es.length + 1) = m := by omega
      have HN1 : Hid (BoxT 25 wr (w.heap.size + 2) (rowL (m + 1) es).toArray) := (show BoxT _ _ _ _ from by rw [← hm1]; exact HN.out)
      clear HN e0 e1 e2 hx hxm hbx
      obtain ⟨xo, xn, xa, xc, xl⟩ := x
      unfold Ex.val at HCL
      simp only at c0 c1 c2 HB1 HCL
      go_wp2_with (go_at_call 50; refine HCL.out.mono ?_; rintro r w2 ⟨y, rfl, hsim, hiny, hfar, bb⟩; have HSM := hide hsim; have HIY := hide hiny; have HFY := hide (hfar.mono (show w.heap.size + 3 ≤ _ from by have := HN1.out.lt; simp; omega)); have HB2 := hide (HB1.out.trans (bb.mono HB1.out.size)); have HX2 := hide (HX.out.below HB2.out); have HR2 := hide (HR.out.below HB2.out); have HN2 := hide (HN1.out.below HB2.out); have HC2 := hide (HC.out.below HB2.out); have HW2 := hide (HB.out.trans (HB2.out.mono HB.out.size)); have n0 := (HN2.out.cellAt (es.length * 3)).trans (by simpa using (rowL_get (m := m) (es := es)).1); have n1 := (HN2.out.cellAt (es.length * 3 + 1)).trans (by simpa using (rowL_get (m := m) (es := es)).2.1); have n2 := (HN2.out.cellAt (es.length * 3 + 2)).trans (by simpa using (rowL_get (m := m) (es := es)).2.2); have nf := HN2.out.free; clear bb hsim hiny hfar; obtain ⟨yo, yn, ya, yc, yl⟩ := y; unfold Ex.val)
      go_roundg go
      case rel =>
        have hk : w.heap.size + 1 + 1 < w.heap.size + 3 := by omega
        have hrow := rowL_set (m := m) (es := es) ⟨yo, yn, ya, yc, yl⟩
        simp only at hrow
        have hset := ((HN2.out.set (es.length * 3) (.int .i64 yo)).set (es.length * 3 + 1) (.int .i64 yn)).set (es.length * 3 + 2) (.slice ya yl.length yc)
        rw [hrow] at hset
        refine ⟨es ++ [⟨yo, yn, ya, yc, yl⟩], by simp, by simp; omega, by simp; omega, (((HX2.out.other _ _ (by omega)).other _ _ (by omega)).other _ _ (by omega)), (((HR2.out.other _ _ (by omega)).other _ _ (by omega)).other _ _ (by omega)), ?_, hide ((((HC2.out.more HXX.out HSM.out HIY.out HFY.out).set hk _ _).set hk _ _).set hk _ _), (((HW2.out.setCell (by show w.heap.size ≤ w.heap.size + 1 + 1; omega) _).setCell (by show w.heap.size ≤ w.heap.size + 1 + 1; omega) _).setCell (by show w.heap.size ≤ w.heap.size + 1 + 1; omega) _)⟩
        show BoxT 25 _ _ _
        simp only [List.length_append, List.length_singleton]
        rw [hm2]
        exact hset
      case measure => omega
    · have bt : ¬ (es.length : Int) < (l.length : Int) := by omega
      have he : es.length = l.length := by omega
      have hL := HIN.out.self
      go_wp2_with fail
      have z := ((((HR.out.set 0 (.int .i64 op)).set 1 (.int .i64 n)).set 2 (.slice (some ⟨w.heap.size + 1 + 1, 0, none⟩) l.length l.length) : BoxT 25 _ _ _)).cells3
      have hk : w.heap.size + 1 < w.heap.size + 3 := by omega
      have hc := ((HC.out.set hk 0 (.int .i64 op)).set hk 1 (.int .i64 n)).set hk 2 (.slice (some ⟨w.heap.size + 1 + 1, 0, none⟩) l.length l.length)
      have hn := ((HN.out.other 0 (.int .i64 op) (show w.heap.size + 2 ≠ w.heap.size + 1 by omega)).other 1 (.int .i64 n) (show w.heap.size + 2 ≠ w.heap.size + 1 by omega)).other 2 (.slice (some ⟨w.heap.size + 1 + 1, 0, none⟩) l.length l.length) (show w.heap.size + 2 ≠ w.heap.size + 1 by omega)
      have hkid : ∀ x' ∈ es, J.In _ x' ∧ Far (w.heap.size + 3) x' := fun x' hx' => by
        obtain ⟨j, hj, rfl⟩ := List.getElem_of_mem hx'
        have := hc j l[j] es[j] (List.getElem?_eq_getElem (by omega)) (List.getElem?_eq_getElem hj)
        exact this.2
      refine bodyPost_ret (v := .agg #[.int .i64 op, .int .i64 n, .slice (some ⟨w.heap.size + 1 + 1, 0, none⟩) l.length l.length]) (by simp [results, Tryz.results50, go_sem, z.1, z.2.1, z.2.2]) rfl ⟨⟨op, n, some ⟨w.heap.size + 1 + 1, 0, none⟩, l.length, es⟩, by unfold Ex.val; rw [he], Sim.mk he.symm (fun j x x' h1 h2 => (hc j x x' h1 h2).1), In.mk ⟨hL.op1, hL.op2, hL.n1, hL.n2, by simp only; omega, by simp only; omega, fun i x hx => ?_⟩ (fun x hx => (hkid x hx).1), Far.mk (by omega) (fun x hx => (hkid x hx).2.mono (by omega)), (((HB.out.setCell (by show w.heap.size ≤ w.heap.size + 1; omega) _).setCell (by show w.heap.size ≤ w.heap.size + 1; omega) _).setCell (by show w.heap.size ≤ w.heap.size + 1; omega) _)⟩
      simp only at hx
      have hg := rowL_at (m := l.length - es.length) hx
      refine ⟨w.heap.size + 1 + 1, 0, rfl, ?_, ?_, ?_⟩
      · exact (hn.cellAt _).trans (by simpa using hg.1)
      · exact (hn.cellAt _).trans (by simpa using hg.2.1)
      · exact (hn.cellAt _).trans (by simpa using hg.2.2)
end Go.Proofs.YtpcbhcdpegbfjaaGreat.J
