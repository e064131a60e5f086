/-
  Fire.
-/
import Derived.Test.YtlikikiglicdlaaWJoin
namespace Go.Proofs.Ytlikikiglicdlaa
open Go.RowKit

/-- It is over at that mark. -/
def ovr (mk : Int) (p : Pn) : Bool := decide (wrap64 (p.t - 1) ≤ mk)
def rcOf (p : Pn) : Rc := ⟨p.k, wrap64 (p.t - 1), p.a⟩
def outF (mk : Int) (l : List Pn) : List Rc := (l.filter (ovr mk)).map rcOf
def leftF (mk : Int) (l : List Pn) : List Pn := l.filter fun p => !ovr mk p
theorem out_step {mk : Int} {l : List Pn} {i : Nat} {p : Pn} (h : l[i]? = some p) : outF mk (l.take (i + 1)) = if ovr mk p then outF mk (l.take i) ++ [rcOf p] else outF mk (l.take i) := by
  have hlt := lt_of_get h
  have e : l[i] = p := by rw [List.getElem?_eq_getElem hlt] at h; exact Option.some.inj h
  rw [List.take_succ_eq_append_getElem hlt, e]
  unfold outF
  rw [List.filter_append]
  cases hb : ovr mk p <;> simp [hb]
theorem left_step {mk : Int} {l : List Pn} {i : Nat} {p : Pn} (h : l[i]? = some p) : leftF mk (l.take (i + 1)) = if ovr mk p then leftF mk (l.take i) else leftF mk (l.take i) ++ [p] := by
  have hlt := lt_of_get h
  have e : l[i] = p := by rw [List.getElem?_eq_getElem hlt] at h; exact Option.some.inj h
  rw [List.take_succ_eq_append_getElem hlt, e]
  unfold leftF
  rw [List.filter_append]
  cases hb : ovr mk p <;> simp [hb]
theorem out_len (mk : Int) (l : List Pn) : (outF mk l).length ≤ l.length := by
  unfold outF; rw [List.length_map]; exact List.length_filter_le ..
theorem left_len (mk : Int) (l : List Pn) : (leftF mk l).length ≤ l.length := List.length_filter_le ..
theorem take_len {α : Type} (l : List α) (n : Nat) : (l.take n).length ≤ l.length := by rw [List.length_take]; omega
theorem new3 (W : World) {n : Nat} (hn : n = W.heap.size) (x : Rc) (j : Nat) (u : Value) (hu : (Rc.cs x)[j]? = some u) : (W.alloc (.cells #[.int .i64 x.k, .int .i64 x.t, .int .i64 x.v] 37)).cell? ((⟨n, 0, none⟩ : Addr).add j) = some u := by
  have hb : BoxT 37 _ n _ := BoxT.new_at (t := 37) (w := W) (cs := #[.int .i64 x.k, .int .i64 x.t, .int .i64 x.v]) hn
  rw [add_plain2, hb.cellAt, Nat.zero_add]
  have hl := lt_of_get hu
  rw [Rc.cs_len] at hl
  match j, hu with
  | 0, hu | 1, hu | 2, hu => simp [Rc.cs] at hu; subst hu; rfl
theorem OwnL.other {α β : Type} {t t' sz sz' : Nat} {cs : α → List Value} {cs' : β → List Value} {base base' : Nat} {w w' : World} {v v' : Value} {xs : List α} {ys : List β} (h : OwnL t sz cs base w v xs) (h' : OwnL t' sz' cs' base' w v' ys) (hg : w.grownBy w' v'.ownBlock) (ht : t ≠ t') : OwnL t sz cs base w' v xs := by
  refine h.back (fun g e => hg.block g (h.lt g e) (fun e' => ?_))
  obtain ⟨c1, h1⟩ := h.has g e
  obtain ⟨c2, h2⟩ := h'.has g e'.symm
  rw [h1] at h2
  simp at h2
  exact ht h2.2
set_option maxHeartbeats 4000000 in
set_option maxRecDepth 100000 in
theorem Fire_any {w : World} {v : Value} {l : List Pn} (hl : LSeg 4 Pn.cs w.heap.size w v l) (hn : l.length ≤ 100000) (mk : Int) : Calls Try.prog 18 #[v, .int .i64 mk] w fun e w' => ∃ u1 u2, e = .returned (.tuple #[u1, u2]) ∧ OwnL 37 3 Rc.cs w.heap.size w' u1 (outF mk (srt l)) ∧ OwnL 46 4 Pn.cs w.heap.size w' u2 (leftF mk (srt l)) ∧ Below w.heap.size w w' := by
  have HS1 := hide (Sort_any hl (by omega))
  obtain ⟨ao, cap, rfl⟩ := hl.shapeOf
  have hsl : (srt l).length ≤ 100000 := by rw [srt_len]; exact hn
  generalize srt l = m at *
  clear hl hn
  go_enter Try.func18, Try.ntmps18
  go_wp2_with (go_at_call 24; refine HS1.out.mono ?_; rintro e w1 ⟨u, rfl, o1, b1⟩; obtain ⟨ua, uc, rfl⟩ := (o1.seg Pn.cs_len (by omega)).shapeOf; have O1 := hide (o1.seg Pn.cs_len (by omega)); have B1 := hide b1; clear o1 b1)
  clear HS1
  go_loopg [6, 7, 9, 10, 14] (m.length + 1) (fun gh ov lv _ _ iv wr => ∃ i : Nat, iv = .int .i64 (i : Int) ∧ i ≤ m.length ∧ m.length + 1 ≤ gh + i ∧ Hid (OwnL 37 3 Rc.cs w1.heap.size wr ov (outF mk (m.take i))) ∧ Hid (OwnL 46 4 Pn.cs w1.heap.size wr lv (leftF mk (m.take i))) ∧ Hid (Below w1.heap.size w1 wr))
  case atStart => exact ⟨0, rfl, by omega, by omega, OwnL.nil _ _ _ _ _, OwnL.nil _ _ _ _ _, Below.refl _ _⟩
  case round =>
    obtain ⟨i, rfl, hi, hg, GO, GL, GB⟩ := hrel
    obtain ⟨go, rfl⟩ : ∃ go, gk = go + 1 := ⟨gk - 1, by omega⟩
    by_cases hlt : i < m.length
    · obtain ⟨x, hx⟩ := get_of_lt hlt
      have bt : (i : Int) < (m.length : Int) := by omega
      obtain ⟨nb, no, rfl, nlt, e0, e1, e2, e3⟩ := (O1.out.below GB.out).pane hx
      have HOS := hide (out_step (mk := mk) hx)
      have HLS := hide (left_step (mk := mk) hx)
      have HOL : Hid ((outF mk (m.take i)).length ≤ 1000000) := (show _ ≤ _ by have h1 := out_len mk (m.take i); have h2 := take_len m i; omega)
      have HLL : Hid ((leftF mk (m.take i)).length ≤ 1000000) := (show _ ≤ _ by have h1 := left_len mk (m.take i); have h2 := take_len m i; omega)
      generalize outF mk (m.take i) = oi at *
      generalize leftF mk (m.take i) = li at *
      obtain ⟨oa, oc, rfl⟩ := GO.out.shape
      obtain ⟨la, lc, rfl⟩ := GL.out.shape
      clear hx
      obtain ⟨xk, xf, xt, xa⟩ := x
      simp only at e0 e1 e2 e3
      have HOV : Hid (ovr mk ⟨xk, xf, xt, xa⟩ = decide (wrap64 (xt - 1) ≤ mk)) := (show _ = _ from rfl)
      have HRC : Hid (rcOf ⟨xk, xf, xt, xa⟩ = ⟨xk, wrap64 (xt - 1), xa⟩) := (show _ = _ from rfl)
      rw [HOV.out] at HOS HLS
      rw [HRC.out] at HOS
      clear HOV HRC
      have hbx := below_box2 wr (.cells #[.int .i64 xk, .int .i64 xf, .int .i64 xt, .int .i64 xa] 46)
      by_cases ho : wrap64 (xt - 1) ≤ mk
      · rw [decide_eq_true ho, if_pos rfl] at HOS HLS
        have HB3 := hide (hbx (.cells #[.int .i64 xk, .int .i64 (wrap64 (xt - 1)), .int .i64 xa] 37))
        have HO3 := hide (GO.out.below HB3.out)
        have HL3 := hide (GL.out.below HB3.out)
        have HS3 := hide (GB.out.trans (HB3.out.mono GB.out.size))
        have HSZ := hide HS3.out.size
        clear hbx
        go_wp2_with (at_builtin; refine app_L Try.infoRc Try.underlying33 rfl (by decide) (by decide) Rc.cs_len Rc.cs_one rfl _ _ rfl w1.heap.size _ oi rfl HO3.out _ _ (⟨xk, wrap64 (xt - 1), xa⟩ : Rc) rfl (new3 (wr.alloc _) (by simp) ⟨xk, wrap64 (xt - 1), xa⟩) HOL.out HSZ.out ?_; intro v5 w5 h5 g5 k5)
        go_roundg go
        case rel => exact ⟨i + 1, by go_num, by omega, by omega, (show OwnL _ _ _ _ _ _ _ by rw [HOS.out]; exact h5), (show OwnL _ _ _ _ _ _ _ by rw [HLS.out]; exact HL3.out.other HO3.out g5 (by decide)), HS3.out.grown g5 HSZ.out (fun k e => GO.out.at k e)⟩
        case measure => omega
      · rw [decide_eq_false ho, if_neg (by decide)] at HOS HLS
        have HB3 := hide (hbx (.cells #[.int .i64 xk, .int .i64 xf, .int .i64 xt, .int .i64 xa] 46))
        have HO3 := hide (GO.out.below HB3.out)
        have HL3 := hide (GL.out.below HB3.out)
        have HS3 := hide (GB.out.trans (HB3.out.mono GB.out.size))
        have HSZ := hide HS3.out.size
        clear hbx
        go_wp2_with (at_builtin; refine app_L Try.infoPn Try.underlying35 rfl (by decide) (by decide) Pn.cs_len Pn.cs_one rfl _ _ rfl w1.heap.size _ li rfl HL3.out _ _ (⟨xk, xf, xt, xa⟩ : Pn) rfl (new4 (wr.alloc _) (by simp) ⟨xk, xf, xt, xa⟩) HLL.out HSZ.out ?_; intro v5 w5 h5 g5 k5)
        go_roundg go
        case rel => exact ⟨i + 1, by go_num, by omega, by omega, (show OwnL _ _ _ _ _ _ _ by rw [HOS.out]; exact HO3.out.other HL3.out g5 (by decide)), (show OwnL _ _ _ _ _ _ _ by rw [HLS.out]; exact h5), HS3.out.grown g5 HSZ.out (fun k e => GL.out.at k e)⟩
        case measure => omega
    · have bt : ¬ (i : Int) < (m.length : Int) := by omega
      have HT : Hid (m.take i = m) := (show _ = _ from List.take_of_length_le (by omega))
      rw [HT.out] at GO GL
      have hbb := B1.out.trans (GB.out.mono B1.out.size)
      have HBB := hide hbb
      clear hbb
      obtain ⟨oa, oc, rfl⟩ := GO.out.shape
      obtain ⟨la, lc, rfl⟩ := GL.out.shape
      go_wp2_with fail
      exact bodyPost_ret (v := .tuple #[.slice oa (outF mk m).length oc, .slice la (leftF mk m).length lc]) (by simp [results, Try.results18, go_sem]; try rfl) rfl ⟨_, _, rfl, GO.out.mono B1.out.size, GL.out.mono B1.out.size, HBB.out⟩
end Go.Proofs.Ytlikikiglicdlaa
