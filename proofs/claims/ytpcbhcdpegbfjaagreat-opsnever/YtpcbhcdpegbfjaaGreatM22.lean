/-
  Texts in build order: ZJLogs, ZJLogs2, ZJLight.
-/
import Derived.Test.YtpcbhcdpegbfjaaGreatM21
/-
  Logs, Whole, Items of package job.
-/
namespace Go.Proofs.YtpcbhcdpegbfjaaGreat.J
open Go.RowKit

/-- A partition, and where its items lie. -/
structure Pt where
  a : Option Addr
  c : Nat
  its : List It
def Pt.cs (p : Pt) : List Value := [.slice p.a p.its.length p.c]
theorem Pt.cs_len (p : Pt) : p.cs.length = 1 := rfl
/-- A node's partitions, and where they lie. -/
structure En where
  a : Option Addr
  c : Nat
  pts : List Pt
def En.cs (e : En) : List Value := [.slice e.a e.pts.length e.c]
theorem En.cs_len (e : En) : e.cs.length = 1 := rfl
structure PtsIn (B : Nat) (w : World) (v : Value) (ps : List Pt) : Prop where
  seg : LSeg 1 Pt.cs B w v ps
  its : ∀ p ∈ ps, LSeg 5 It.cs B w (.slice p.a p.its.length p.c) p.its
structure LogIn (B : Nat) (w : World) (v : Value) (ls : List En) : Prop where
  seg : LSeg 1 En.cs B w v ls
  pts : ∀ e ∈ ls, PtsIn B w (.slice e.a e.pts.length e.c) e.pts
section
variable {B B' : Nat} {w w' : World} {v : Value}
theorem PtsIn.below {ps : List Pt} (h : PtsIn B w v ps) (hb : Below B w w') : PtsIn B w' v ps := ⟨h.seg.below hb, fun p hp => (h.its p hp).below hb⟩
theorem PtsIn.mono {ps : List Pt} (h : PtsIn B w v ps) (hb : B ≤ B') : PtsIn B' w v ps := ⟨h.seg.mono hb, fun p hp => (h.its p hp).mono hb⟩
theorem LogIn.below {ls : List En} (h : LogIn B w v ls) (hb : Below B w w') : LogIn B w' v ls := ⟨h.seg.below hb, fun e he => (h.pts e he).below hb⟩
theorem LogIn.mono {ls : List En} (h : LogIn B w v ls) (hb : B ≤ B') : LogIn B' w v ls := ⟨h.seg.mono hb, fun e he => (h.pts e he).mono hb⟩
theorem LSeg.shape {α : Type} {sz : Nat} {cs : α → List Value} {xs : List α} (h : LSeg sz cs B w v xs) : ∃ ao cap, v = .slice ao xs.length cap := by
  obtain ⟨ao, cap, h1, _⟩ := h
  exact ⟨ao, cap, h1⟩
theorem LSeg.len {α : Type} {sz : Nat} {cs : α → List Value} {xs : List α} (h : LSeg sz cs B w v xs) : xs.length ≤ 140737488355328 := by
  obtain ⟨ao, cap, h1, h2, _⟩ := h
  exact h2
theorem LSeg.one {α : Type} {f : α → Value} {xs : List α} {ao : Option Addr} {m cap : Nat} (h : LSeg 1 (fun x => [f x]) B w (.slice ao m cap) xs) {k : Nat} {x : α} (hx : xs[k]? = some x) : ∃ b o, ao = some ⟨b, o, none⟩ ∧ b < B ∧ w.cell? ⟨b, o + k, none⟩ = some (f x) := by
  obtain ⟨ao', cap', e, h2, h4⟩ := h
  cases e
  rcases h4 with h4 | ⟨b, off, h5, h6, h7⟩
  · subst h4; simp at hx
  · exact ⟨b, off, h5, h6, by simpa using h7 k x hx 0 _ rfl⟩
theorem LSeg.item {xs : List It} {ao : Option Addr} {m cap : Nat} (h : LSeg 5 It.cs B w (.slice ao m cap) xs) {k : Nat} {x : It} (hx : xs[k]? = some x) : ∃ b o, ao = some ⟨b, o, none⟩ ∧ b < B ∧ w.cell? ⟨b, o + k * 5, none⟩ = some (.int .i64 x.kind) ∧
    w.cell? ⟨b, o + k * 5 + 1, none⟩ = some (.int .i64 x.key) ∧ w.cell? ⟨b, o + k * 5 + 2, none⟩ = some (.int .i64 x.time) ∧ w.cell? ⟨b, o + k * 5 + 3, none⟩ = some (.int .i64 x.val) ∧ w.cell? ⟨b, o + k * 5 + 4, none⟩ = some (.int .i64 x.mark) := by
  obtain ⟨ao', cap', e, h2, h4⟩ := h
  cases e
  rcases h4 with h4 | ⟨b, off, h5, h6, h7⟩
  · subst h4; simp at hx
  · exact ⟨b, off, h5, h6, h7 k x hx 0 _ rfl, h7 k x hx 1 _ rfl, h7 k x hx 2 _ rfl, h7 k x hx 3 _ rfl, h7 k x hx 4 _ rfl⟩
end
end Go.Proofs.YtpcbhcdpegbfjaaGreat.J
/-
  Logs, Whole, Items walked.
-/
namespace Go.Proofs.YtpcbhcdpegbfjaaGreat.J
open Go.RowKit

end Go.Proofs.YtpcbhcdpegbfjaaGreat.J
/-
  Light of the document's expressions; which jobs the laws look at.
-/
namespace Go.Proofs.YtpcbhcdpegbfjaaGreat.J
open Go.RowKit

theorem below1 (w : World) (o : Obj) : Below w.heap.size w (w.alloc o) := (Below.refl _ _).alloc (Nat.le_refl _) _
/-- A box of three cells. -/
structure Tri (w : World) (b : Nat) (v0 v1 v2 : Value) : Prop where
  c0 : w.cell? ⟨b, 0, none⟩ = some v0
  c1 : w.cell? ⟨b, 1, none⟩ = some v1
  c2 : w.cell? ⟨b, 2, none⟩ = some v2
theorem Tri.below {w w' : World} {b : Nat} {v0 v1 v2 : Value} (h : Tri w b v0 v1 v2) (hb : Below w.heap.size w w') : Tri w' b v0 v1 v2 := by
  have hl := cell_lt h.c0
  exact ⟨(hb.cell (p := ⟨b, _, none⟩) hl).trans h.c0, (hb.cell (p := ⟨b, _, none⟩) hl).trans h.c1, (hb.cell (p := ⟨b, _, none⟩) hl).trans h.c2⟩
theorem Tri.new (w : World) (v0 v1 v2 : Value) (t : TypeId) : Tri (w.alloc (.cells #[v0, v1, v2] t)) w.heap.size v0 v1 v2 := by
  have h : (w.alloc (.cells #[v0, v1, v2] t)).heap[w.heap.size]? = some (.cells #[v0, v1, v2] t) := heap_alloc_new w _
  refine ⟨?_, ?_, ?_⟩ <;> simp only [World.cell?, h] <;> rfl

/-! ### Light -/
def lgtL (fs : List (Int → Int → Int)) (most deep n : Int) : Int := match fs with
  | [] => n
  | f :: fs => if n ≤ most then lgtL fs most deep (n + f (most - n) (deep - 1)) else n
def lgt1 (_op _n : Int) (fs : List (Int → Int → Int)) (most deep : Int) : Int := if most ≤ 0 ∨ deep ≤ 0 then most + 1 else lgtL fs most deep 1
def lgt : Ex → Int → Int → Int := Ex.fold lgt1
theorem lgt_mk (op n : Int) (a : Option Addr) (c : Nat) (l : List Ex) : lgt ⟨op, n, a, c, l⟩ = lgt1 op n (l.map lgt) := by
  unfold lgt; rw [Ex.fold_mk]
theorem lgt_ok (e : Ex) : ∀ most deep : Int, 0 ≤ most → 1 ≤ lgt e most deep ∧ lgt e most deep ≤ most + 1 ∧ (lgt e most deep ≤ most → lgt e most deep = size e ∧ dep e ≤ deep) := by
  refine Ex.ind (P := fun e => ∀ most deep : Int, 0 ≤ most → 1 ≤ lgt e most deep ∧ lgt e most deep ≤ most + 1 ∧ (lgt e most deep ≤ most → lgt e most deep = size e ∧ dep e ≤ deep)) ?_ e
  intro op n a c l ih most deep hm
  rw [lgt_mk, size_mk, dep_mk]
  unfold lgt1
  by_cases h : most ≤ 0 ∨ deep ≤ 0
  · rw [if_pos h]
    exact ⟨by omega, by omega, fun h => by omega⟩
  · rw [if_neg h]
    have key : ∀ (l : List Ex) (k : Int), 1 ≤ k → k ≤ most + 1 → (∀ x ∈ l, ∀ most deep : Int, 0 ≤ most → 1 ≤ lgt x most deep ∧ lgt x most deep ≤ most + 1 ∧ (lgt x most deep ≤ most → lgt x most deep = size x ∧ dep x ≤ deep)) →
        k ≤ lgtL (l.map lgt) most deep k ∧ lgtL (l.map lgt) most deep k ≤ most + 1 ∧ (lgtL (l.map lgt) most deep k ≤ most → lgtL (l.map lgt) most deep k = k + ((l.map size).sum : Nat) ∧ (((l.map dep).foldr max 0 : Nat) : Int) ≤ deep - 1) := by
      intro l
      induction l with
      | nil =>
        intro k h1 h2 _
        simp only [List.map_nil, lgtL, List.sum_nil, List.foldr_nil]
        exact ⟨by omega, h2, fun _ => ⟨by simp, by simp; omega⟩⟩
      | cons x r ihr =>
        intro k h1 h2 hx
        simp only [List.map_cons, lgtL, List.sum_cons, List.foldr_cons]
        by_cases hk : k ≤ most
        · rw [if_pos hk]
          obtain ⟨g1, g2, g3⟩ := hx x (by simp) (most - k) (deep - 1) (by omega)
          obtain ⟨i1, i2, i3⟩ := ihr (k + lgt x (most - k) (deep - 1)) (by omega) (by omega) (fun y hy => hx y (by simp [hy]))
          refine ⟨by omega, i2, fun h3 => ?_⟩
          obtain ⟨j1, j2⟩ := i3 h3
          have hle : lgt x (most - k) (deep - 1) ≤ most - k := by omega
          obtain ⟨q1, q2⟩ := g3 hle
          exact ⟨by rw [j1, q1]; push_cast; omega, by omega⟩
        · rw [if_neg hk]
          exact ⟨by omega, h2, fun h3 => by omega⟩
    obtain ⟨h1, h2, h3⟩ := key l 1 (by omega) (by omega) ih
    refine ⟨h1, h2, fun h4 => ?_⟩
    obtain ⟨h5, h6⟩ := h3 h4
    exact ⟨by rw [h5]; push_cast; omega, by push_cast; omega⟩
theorem lgtL_drop (l : List Ex) (most deep n : Int) (i : Nat) (x : Ex) (h : l[i]? = some x) :
    lgtL ((l.drop i).map lgt) most deep n = if n ≤ most then lgtL ((l.drop (i + 1)).map lgt) most deep (n + lgt x (most - n) (deep - 1)) else n := by
  obtain ⟨hi, hx⟩ := List.getElem?_eq_some_iff.1 h
  rw [List.drop_eq_getElem_cons hi, hx, List.map_cons]
  rfl

set_option maxHeartbeats 4000000 in
set_option maxRecDepth 100000 in
theorem Light_any (e : Ex) : ∀ (w : World) (most deep : Int), In w e → 0 ≤ most → most ≤ 1000 → -1000 ≤ deep → deep ≤ 1000 →
    Calls Tryz.prog 25 #[e.val, .int .i64 most, .int .i64 deep] w fun r w' => r = .returned (.int .i64 (lgt e most deep)) ∧ Below w.heap.size w w' := by
  refine Ex.ind (P := fun e => ∀ (w : World) (most deep : Int), In w e → 0 ≤ most → most ≤ 1000 → -1000 ≤ deep → deep ≤ 1000 →
    Calls Tryz.prog 25 #[e.val, .int .i64 most, .int .i64 deep] w fun r w' => r = .returned (.int .i64 (lgt e most deep)) ∧ Below w.heap.size w w') ?_ e
  intro op m a c l ih w most deep hin hm0 hm1 hd0 hd1
  have hL := hin.self
  have hlen := hL.len
  have hcap := hL.cap
  simp only at hlen hcap
  rw [lgt_mk]
  have hb1 := hide (below1 w (.cells #[.int .i64 op, .int .i64 m, .slice a l.length c] 25))
  have T := hide (Tri.new w (.int .i64 op) (.int .i64 m) (.slice a l.length c) 25)
  unfold Ex.val lgt1
  by_cases hb : most ≤ 0 ∨ deep ≤ 0
  · rw [if_pos hb]
    by_cases h1 : most ≤ 0
    · clear hb
      go_enter Tryz.func25, Tryz.ntmps25
      go_wp2
      go_ret
      exact ⟨rfl, hb1.out⟩
    · have h2 : deep ≤ 0 := by omega
      clear hb
      go_enter Tryz.func25, Tryz.ntmps25
      go_wp2
      go_ret
      exact ⟨rfl, hb1.out⟩
  · rw [if_neg hb]
    have h1 : ¬ most ≤ 0 := by omega
    have h2 : ¬ deep ≤ 0 := by omega
    clear hb
    obtain ⟨R, hR⟩ : ∃ R, lgtL (l.map lgt) most deep 1 = R := ⟨_, rfl⟩
    rw [hR]
    have HR : Hid (lgtL ((l.drop 0).map lgt) most deep 1 = R) := hR
    have HIN := hide hin
    have IH := hide ih
    clear hR hin ih hL
    go_enter Tryz.func25, Tryz.ntmps25
    go_wp2_with fail
    go_loopw [7, 8] (fun k i wr => ∃ (j : Nat) (k' : Int), j ≤ l.length ∧ i = .int .i64 j ∧ k = .int .i64 k' ∧ 1 ≤ k' ∧ k' ≤ most + 1 ∧ Below w.heap.size w wr ∧ Hid (Tri wr w.heap.size (.int .i64 op) (.int .i64 m) (.slice a l.length c)) ∧ Hid (lgtL ((l.drop j).map lgt) most deep k' = R)) (fun _ i _ => l.length - (intOf i).toNat)
    case atStart => exact ⟨0, 1, Nat.zero_le _, rfl, rfl, by omega, by omega, hb1.out, T.out, HR⟩
    case round =>
      obtain ⟨j, k', hj, rfl, rfl, hk0, hk1, hbel, HT, HC⟩ := hrel
      obtain ⟨p0, p1, p2⟩ := HT.out
      by_cases hlt : j < l.length
      · by_cases hkm : k' ≤ most
        · obtain ⟨x, hx⟩ : ∃ x, l[j]? = some x := ⟨_, List.getElem?_eq_getElem hlt⟩
          obtain ⟨b, o, ha, e0, e1, e2⟩ := HIN.out.self.at_ j x hx
          simp only at ha
          subst ha
          have hlb := cell_lt e0
          have c0 := (hbel.cell (p := ⟨b, o + j * 3, none⟩) hlb).trans e0
          have c1 := (hbel.cell (p := ⟨b, o + j * 3 + 1, none⟩) hlb).trans e1
          have c2 := (hbel.cell (p := ⟨b, o + j * 3 + 2, none⟩) hlb).trans e2
          have hxm : x ∈ l := List.mem_of_getElem? hx
          have HQ := HC.out
          rw [lgtL_drop l _ _ _ j x hx, if_pos hkm] at HQ
          have HQ' := hide HQ
          have hok := lgt_ok x (most - k') (deep - 1) (by omega)
          have hcall := hide (IH.out x hxm wr (most - k') (deep - 1) ((HIN.out.kid hxm).below hbel) (by omega) (by omega) (by omega) (by omega))
          clear HC HQ hx hxm e0 e1 e2
          obtain ⟨xo, xn, xa, xc, xl⟩ := x
          simp only at c0 c1 c2
          generalize lgt ⟨xo, xn, xa, xc, xl⟩ (most - k') (deep - 1) = q at *
          obtain ⟨hq1, hq2, _⟩ := hok
          go_wp2_with (go_at_call 25; refine hcall.out.mono ?_; rintro r w3 ⟨rfl, hb3⟩)
          have hb4 := hbel.trans (hb3.mono hbel.size)
          go_roundw
          case rel => exact ⟨j + 1, k' + q, by omega, by go_num, rfl, by omega, by omega, hb4, HT.out.below hb3, HQ'⟩
          case measure => simp [intOf]; omega
        · have hf : Hid (k' = R) := by
            obtain ⟨x, hx⟩ : ∃ x, l[j]? = some x := ⟨_, List.getElem?_eq_getElem hlt⟩
            have HQ := HC.out
            rw [lgtL_drop l _ _ _ j x hx, if_neg hkm] at HQ
            exact HQ
          go_wp2_with fail
          go_ret
          exact ⟨ret_int hf.out, hbel⟩
      · have hf : Hid (k' = R) := by
          have HQ := HC.out
          rw [List.drop_eq_nil_of_le (by omega)] at HQ
          exact HQ
        go_wp2_with fail
        go_ret
        exact ⟨ret_int hf.out, hbel⟩

/-- The nodes' expressions lie there. -/
def ExIn (w : World) (ns : List Nd) : Prop := ∀ n ∈ ns, In w n.e
theorem ExIn.below {w w' : World} {ns : List Nd} (h : ExIn w ns) (hb : Below w.heap.size w w') : ExIn w' ns := fun n hn => (h n hn).below hb
def lgOk (n : Nd) : Prop := n.ins.length ≤ 40 ∧ lgt n.e 100 40 ≤ 100
end Go.Proofs.YtpcbhcdpegbfjaaGreat.J
