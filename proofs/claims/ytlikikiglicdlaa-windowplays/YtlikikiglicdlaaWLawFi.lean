/-
  The law WindowFires, walked.
-/
import Derived.Test.YtlikikiglicdlaaWPanes
namespace Go.Proofs.Ytlikikiglicdlaa
open Go.RowKit

/-- What is left: as it came in, or a row of the law's own. -/
def Lf (w : World) (B0 : Nat) (v0 : Value) (l0 : List Pn) (v : Value) (l : List Pn) : Prop := (v = v0 ∧ l = l0 ∧ LSeg 4 Pn.cs B0 w v0 l0) ∨ ∃ B, OwnL 46 4 Pn.cs B w v l
theorem Lf.seg {w : World} {B0 : Nat} {v0 v : Value} {l0 l : List Pn} (h : Lf w B0 v0 l0 v l) (hB : B0 ≤ w.heap.size) (hn : l.length ≤ 1000000) : LSeg 4 Pn.cs w.heap.size w v l := by
  rcases h with ⟨rfl, rfl, h⟩ | ⟨B, h⟩
  · exact h.mono hB
  · exact h.seg Pn.cs_len (by omega)
theorem LSeg.num {B : Nat} {w : World} {ao : Option Addr} {n cap : Nat} {xs : List Int} (h : LSeg 1 i64cs B w (.slice ao n cap) xs) {i : Nat} {x : Int} (hx : xs[i]? = some x) : ∃ b o, ao = some ⟨b, o, none⟩ ∧ b < B ∧ w.cell? ⟨b, o + i, none⟩ = some (.int .i64 x) := by
  obtain ⟨b, o, e, hb, _, d⟩ := h.readAt hx
  have d0 := d 0 _ rfl
  rw [Nat.mul_one] at d0
  exact ⟨b, o, e, hb, d0⟩
theorem wp_segL {α : Type} {t sl sz by_ : Nat} {z : Value} {cs : α → List Value} (hinfo : (Try.prog.info? t).map (fun i => (i.zero, i.size, i.bytes)) = some (some z, sz, by_)) (hund : Try.prog.underlying sl = some (.slice t)) (hz : z.cells.size = sz) (hsz : 0 < sz) (hby : by_ ≤ 100)
    (hcs : ∀ x, (cs x).length = sz) (h1c : ∀ x, ∀ u ∈ cs x, u.oneCell' = true) {w : World} {o : Oper} {a : Act} {K : Act → World → Prop} {Q : Exit → Act → World → Prop} (s x : Operand)
    (ho : o.op = .call { callee := .builtin .append, args := #[s, x], argTypes := #[sl, sl] }) (base : Nat) (v : Value) (xs : List α) (hs : a.eval s = v) (hown : OwnL t sz cs base w v xs)
    (B : Nat) (v2 : Value) (ys : List α) (hx : a.eval x = v2) (hseg : LSeg sz cs B w v2 ys) (hl : xs.length + ys.length ≤ 1000000) (hbase : base ≤ w.heap.size)
    (h : ∀ v' w', OwnL t sz cs base w' v' (xs ++ ys) → w.grownBy w' v.ownBlock → (v'.ownBlock = v.ownBlock ∨ v'.ownBlock = some w.heap.size) → K (a.put o.dst v') w') : Oper.wp Try.prog o a w K Q := by
  obtain ⟨v', w', hr, h2, h3, h4⟩ := run_segL hinfo hund hz hsz hby hcs h1c o.type base hown hseg hl hbase
  unfold Oper.wp execOp
  simp only [ho, resolve, invoke, builtin, Sem.run_bind, Sem.run_pure, Result.andThen_ok, List.map_toArray, List.map_cons, List.map_nil, hs, hx, hr]
  exact h v' w' h2 h3 h4
set_option maxHeartbeats 32000000 in
set_option maxRecDepth 100000 in
theorem WindowFires_walk {w : World} {v1 v2 : Value} {l : List Pn} {ms : List Int} (hl : LSeg 4 Pn.cs w.heap.size w v1 l) (hm : LSeg 1 i64cs w.heap.size w v2 ms) (_ : ∀ x ∈ ms, In64 x) :
    Calls Try.prog 8 #[v1, v2] w fun e w' => e = .returned (.bool true) ∧ Below w.heap.size w w' := by
  have hz : (l.length : Int) ≤ 140737488355328 := by have := hl.len; omega
  have hz2 : (ms.length : Int) ≤ 140737488355328 := by have := hm.len; omega
  have HK := hide (fun W => known_any W)
  obtain ⟨ao, cap, rfl⟩ := hl.shapeOf
  obtain ⟨am, cm, rfl⟩ := hm.shapeOf
  by_cases hF : PnsOk l
  case neg =>
    have HPA : Hid (∀ W, Below w.heap.size w W → _) := fun W h => panes_no (hl.on h) hF
    clear hl hm
    go_enter Try.func8, Try.ntmps8
    go_wp2_with (first
      | (go_at_call 9; refine (HK.out _).mono ?_; rintro e w1 ⟨rfl, b1⟩; have HB1 := hide b1; have HP1 := hide (HPA.out _ HB1.out); clear b1)
      | (go_at_call 22; refine HP1.out.mono ?_; rintro e w2 ⟨rfl, b2⟩; have HB2 := hide (HB1.out.trans (b2.mono HB1.out.size)); clear b2))
    go_ret
    exact ⟨rfl, HB2.out⟩
  have HPA : Hid (∀ W, Below w.heap.size w W → _) := fun W h => panes_yes (hl.on h) hF
  by_cases hn : (40 : Int) < (ms.length : Int)
  · clear hl hm
    go_enter Try.func8, Try.ntmps8
    go_wp2_with (first
      | (go_at_call 9; refine (HK.out _).mono ?_; rintro e w1 ⟨rfl, b1⟩; have HB1 := hide b1; have HP1 := hide (HPA.out _ HB1.out); clear b1)
      | (go_at_call 22; refine HP1.out.mono ?_; rintro e w2 ⟨rfl, b2⟩; have HB2 := hide (HB1.out.trans (b2.mono HB1.out.size)); clear b2))
    go_ret
    exact ⟨rfl, HB2.out⟩
  have HF := hide hF
  have hl200 : l.length ≤ 200 := hF.1
  have HL := hide hl
  have HM := hide hm
  clear hF hl hm
  go_enter Try.func8, Try.ntmps8
  go_wp2_with (first
    | (go_at_call 9; refine (HK.out _).mono ?_; rintro e w1 ⟨rfl, b1⟩; have HB1 := hide b1; have HP1 := hide (HPA.out _ HB1.out); clear b1)
    | (go_at_call 22; refine HP1.out.mono ?_; rintro e w2 ⟨rfl, b2⟩; have HB2 := hide (HB1.out.trans (b2.mono HB1.out.size)); clear b2))
  clear HK HPA HP1 HB1
  go_loopg [5, 6, 7, 8, 9, 10] (ms.length + 1) (fun gh av lv tv iv _ _ wr => ∃ i : Nat, iv = .int .i64 (i : Int) ∧ i ≤ ms.length ∧ ms.length + 1 ≤ gh + i ∧ tv = .int .i64 (runF l (ms.take i)).top ∧ Hid (OwnL 37 3 Rc.cs w2.heap.size wr av (runF l (ms.take i)).all) ∧ Hid (Lf wr w.heap.size (.slice ao l.length cap) l lv (runF l (ms.take i)).left) ∧ Hid (Below w2.heap.size w2 wr))
  case atStart => exact ⟨0, rfl, by omega, by omega, rfl, OwnL.nil _ _ _ _ _, (show Lf _ _ _ _ _ _ from Or.inl ⟨rfl, rfl, HL.out.below HB2.out⟩), Below.refl _ _⟩
  case round =>
    obtain ⟨i, rfl, hi, hg, rfl, GA, GL, GB⟩ := hrel
    obtain ⟨go, rfl⟩ : ∃ go, gk = go + 1 := ⟨gk - 1, by omega⟩
    have HBW := hide (HB2.out.trans (GB.out.mono HB2.out.size))
    have HST := hide (fok_run HF.out (ms.take i))
    obtain ⟨hal, hll⟩ := HST.out.len
    by_cases hlt : i < ms.length
    · obtain ⟨m, hx⟩ := get_of_lt hlt
      have bt : (i : Int) < (ms.length : Int) := by omega
      obtain ⟨mb, mo, rfl, mlt, d2⟩ := (HM.out.below HB2.out).num hx
      have KC : Hid (∀ w' : World, Below w2.heap.size w2 w' → w'.cell? ⟨mb, mo + i, none⟩ = some (.int .i64 m)) := fun w' h => (h.cell (p := ⟨mb, mo + i, none⟩) (Nat.lt_of_lt_of_le mlt HB2.out.size)).trans d2
      have d0 := KC.out _ GB.out
      clear d2 mlt
      have HRT := hide (run_take (l := l) hx)
      clear hx HST
      generalize runF l (ms.take i) = st at *
      have HFI := hide (Fire_any (GL.out.seg HBW.out.size (by omega)) (by omega) m)
      have HOL : Hid ((outF m (srt st.left)).length ≤ 1000 ∧ (leftF m (srt st.left)).length ≤ 1000) := (show _ ∧ _ from by have h1 := out_len m (srt st.left); have h2 := left_len m (srt st.left); have h3 := srt_len st.left; omega)
      obtain ⟨la, lc, rfl⟩ := (GL.out.seg HBW.out.size (by omega)).shapeOf
      obtain ⟨aa, ac, rfl⟩ := GA.out.shape
      have HSL : Hid (st.all.length ≤ 1000) := (show _ ≤ _ by omega)
      unfold stF at HRT
      generalize hoo : outF m (srt st.left) = oo at *
      generalize hrr : leftF m (srt st.left) = rr at *
      clear hoo hrr
      go_wp2_with (go_at_call 18; refine HFI.out.mono ?_; rintro e w4 ⟨u1, u2, rfl, o1, o2, b4⟩; obtain ⟨oa, oc, rfl⟩ := o1.shape; obtain ⟨ra, rc, rfl⟩ := o2.shape; have O1 := hide o1; have O2 := hide o2; have B4 := hide b4; clear o1 o2 b4)
      have GB4 := hide (GB.out.trans (B4.out.mono GB.out.size))
      have HSZ6 := hide GB4.out.size
      have OA := hide (GA.out.below B4.out).drew
      have OO := hide ((O1.out.seg Rc.cs_len (by have := HOL.out.1; omega)).below (Below.refl _ _).drew)
      have HN6 : Hid (st.all.length + oo.length ≤ 1000000) := (show _ ≤ _ by have := HOL.out.1; have := HSL.out; omega)
      refine wp_region_M (S := fun w' => w'.cell? ⟨mb, mo + i, none⟩ = some (.int .i64 m)) (late := []) (by kernel_rfl) (KC.out _ GB4.out.drew) (fun hHeld => ?_)
      (try simp only [List.size_toArray, List.length_cons, List.length_nil, Nat.zero_add, Nat.reduceAdd, Array.replicate, List.replicate])
      refine wpAnyM_take (i := 0) (oi := ⟨_, _, _, _, _, _⟩) (v := ?_) rfl (by kernel_rfl) (by kernel_rfl) (by kernel_rfl) (by kernel_rfl) (fun _ _ _ h => h) (Or.inl ⟨by rfl, ?_⟩) hHeld ?_
      rotate_left
      · (intro w' hSw; (try dsimp only at hSw); go_simp; try (with_reducible rfl))
      (try simp only [Act.put, List.setIfInBounds_toArray, List.set_cons_zero, List.set_cons_succ])
      refine wpAnyM_take (i := 1) (oi := ⟨_, _, _, _, _, _⟩) (v := ?_) rfl (by kernel_rfl) (by kernel_rfl) (by kernel_rfl) (by kernel_rfl) (fun _ _ _ h => h) (Or.inl ⟨by rfl, ?_⟩) hHeld ?_
      rotate_left
      · (intro w' hSw; (try dsimp only at hSw); go_simp; try (with_reducible rfl))
      (try simp only [Act.put, List.setIfInBounds_toArray, List.set_cons_zero, List.set_cons_succ])
      refine wpAnyM_take (i := 3) (oi := ⟨_, _, _, _, _, _⟩) (v := ?_) rfl (by kernel_rfl) (by kernel_rfl) (by kernel_rfl) (by kernel_rfl) (fun _ _ _ h => h) (Or.inl ⟨by rfl, ?_⟩) hHeld ?_
      rotate_left
      · (intro w' hSw; (try dsimp only at hSw); go_simp; try (with_reducible rfl))
      (try simp only [Act.put, List.setIfInBounds_toArray, List.set_cons_zero, List.set_cons_succ])
      refine wpAnyM_take (i := 4) (oi := ⟨_, _, _, _, _, _⟩) (v := ?_) rfl (by kernel_rfl) (by kernel_rfl) (by kernel_rfl) (by kernel_rfl) (fun _ _ _ h => h) (Or.inl ⟨by rfl, ?_⟩) hHeld ?_
      rotate_left
      · (intro w' hSw; (try dsimp only at hSw); go_simp; try (with_reducible rfl))
      (try simp only [Act.put, List.setIfInBounds_toArray, List.set_cons_zero, List.set_cons_succ])
      refine wpAnyM_take (i := 5) (oi := ⟨_, _, _, _, _, _⟩) (v := ?_) rfl (by kernel_rfl) (by kernel_rfl) (by kernel_rfl) (by kernel_rfl) (fun _ _ _ h => h) (Or.inl ⟨by rfl, ?_⟩) hHeld ?_
      rotate_left
      · (intro w' hSw; (try dsimp only at hSw); go_simp; try (with_reducible rfl))
      (try simp only [Act.put, List.setIfInBounds_toArray, List.set_cons_zero, List.set_cons_succ])
      refine wpAnyM_take (i := 6) (oi := ⟨_, _, _, _, _, _⟩) (v := ?_) rfl (by kernel_rfl) (by kernel_rfl) (by kernel_rfl) (by kernel_rfl) (fun _ _ _ h => h) (Or.inl ⟨by rfl, ?_⟩) hHeld ?_
      rotate_left
      · (intro w' hSw; (try dsimp only at hSw); go_simp; try (with_reducible rfl))
      (try simp only [Act.put, List.setIfInBounds_toArray, List.set_cons_zero, List.set_cons_succ])
      refine wpAnyM_take (i := 7) (oi := ⟨_, _, _, _, _, _⟩) (v := ?_) rfl (by kernel_rfl) (by kernel_rfl) (by kernel_rfl) (by kernel_rfl) (fun _ _ _ h => h) (Or.inl ⟨by rfl, ?_⟩) hHeld ?_
      rotate_left
      · (intro w' hSw; (try dsimp only at hSw); go_simp; try (with_reducible rfl))
      (try simp only [Act.put, List.setIfInBounds_toArray, List.set_cons_zero, List.set_cons_succ])
      refine wpAnyM_take (i := 8) (oi := ⟨_, _, _, _, _, _⟩) (v := ?_) rfl (by kernel_rfl) (by kernel_rfl) (by kernel_rfl) (by kernel_rfl) (fun _ _ _ h => h) (Or.inl ⟨by rfl, ?_⟩) hHeld ?_
      rotate_left
      · (intro w' hSw; (try dsimp only at hSw); go_simp; try (with_reducible rfl))
      (try simp only [Act.put, List.setIfInBounds_toArray, List.set_cons_zero, List.set_cons_succ])
      refine wpAnyM_take (i := 9) (oi := ⟨_, _, _, _, _, _⟩) (v := ?_) rfl (by kernel_rfl) (by kernel_rfl) (by kernel_rfl) (by kernel_rfl) (fun _ _ _ h => h) (Or.inl ⟨by rfl, ?_⟩) hHeld ?_
      rotate_left
      · (intro w' hSw; (try dsimp only at hSw); go_simp; try (with_reducible rfl))
      (try simp only [Act.put, List.setIfInBounds_toArray, List.set_cons_zero, List.set_cons_succ])
      refine wpAnyM_one (i := 2) (o := ⟨_, _, _, _, _, _⟩) (by kernel_rfl) rfl (fun K hK => ?_)
      refine wp_segL Try.infoRc Try.underlying33 rfl (by decide) (by decide) Rc.cs_len Rc.cs_one _ _ rfl w2.heap.size _ st.all rfl OA.out _ _ oo rfl OO.out HN6.out HSZ6.out ?_
      intro v6 w6 h6 g6 _
      (try simp only [Act.put, List.setIfInBounds_toArray, List.set_cons_zero, List.set_cons_succ])
      have B6 := hide (GB4.out.drew.grown g6 HSZ6.out (fun k e => OA.out.at k e))
      have KC6 := hide (KC.out _ B6.out)
      refine hK.out _ _ (KC6.out) (fun hHeld => ?_)
      clear hK K
      (try simp only [List.setIfInBounds_toArray, List.set_cons_zero, List.set_cons_succ])
      refine wpAnyM_one (i := 10) (o := ⟨_, _, _, _, _, _⟩) (by kernel_rfl) rfl (fun K hK => ?_)
      go_simp
      refine hK.out _ _ (KC6.out) (fun hHeld => ?_)
      clear hK K
      (try simp only [List.setIfInBounds_toArray, List.set_cons_zero, List.set_cons_succ])
      refine wpAnyM_one (i := 11) (o := ⟨_, _, _, _, _, _⟩) (by kernel_rfl) rfl (fun K hK => ?_)
      go_simp
      refine hK.out _ _ (KC6.out) (fun hHeld => ?_)
      clear hK K
      (try simp only [List.setIfInBounds_toArray, List.set_cons_zero, List.set_cons_succ])
      refine wpAnyM_one (i := 12) (o := ⟨_, _, _, _, _, _⟩) (by kernel_rfl) rfl (fun K hK => ?_)
      go_simp
      refine hK.out _ _ (KC6.out) (fun hHeld => ?_)
      clear hK K
      (try simp only [List.setIfInBounds_toArray, List.set_cons_zero, List.set_cons_succ])
      refine wpAnyM_done (by kernel_rfl) ?_ _
      go_wp2_with fail
      go_roundg go
      case rel =>
        refine ⟨i + 1, by go_num, by omega, by omega, ?_, ?_, ?_, B6⟩
        · rw [HRT.out]
        · show OwnL _ _ _ _ _ _ _; rw [HRT.out]; exact h6
        · show Lf _ _ _ _ _ _; rw [HRT.out]; exact Or.inr ⟨_, O2.out.drew.other OA.out g6 (by decide)⟩
      case measure => omega
    · have bt : ¬ (i : Int) < (ms.length : Int) := by omega
      have hti : ms.take i = ms := List.take_of_length_le (by omega)
      rw [hti] at GA GL HST hal hll ⊢
      clear hti bt hi hg
      have HFI := hide (fun t => Fire_any (HL.out.on HBW.out) (by omega) t)
      have HOL : Hid (∀ t, (outF t (srt l)).length ≤ 1000 ∧ (leftF t (srt l)).length ≤ 1000) := (show ∀ _, _ ∧ _ from fun t => by have h1 := out_len t (srt l); have h2 := left_len t (srt l); have h3 := srt_len l; omega)
      by_cases h0 : ms = []
      · subst h0
        have HNO := hide (none_out HF.out)
        have hst : (runF l []).top = -9223372036854775808 := rfl
        rw [hst]
        obtain ⟨la, lc, rfl⟩ := (GL.out.seg HBW.out.size (by omega)).shapeOf
        obtain ⟨aa, ac, rfl⟩ := GA.out.shape
        have HFM : Hid (Calls Try.prog 18 #[.slice ao l.length cap, .int .i64 (-9223372036854775808)] wr fun e w' => ∃ a1 c1 a2 c2, e = .returned (.tuple #[.slice a1 0 c1, .slice a2 l.length c2]) ∧ Below wr.heap.size wr w') := (HFI.out minI).mono fun e w' ⟨u1, u2, he, o1, o2, b⟩ => by
          obtain ⟨a1, c1, rfl⟩ := o1.shape
          obtain ⟨a2, c2, rfl⟩ := o2.shape
          rw [HNO.out.2] at he
          rw [HNO.out.1] at he
          exact ⟨a1, c1, a2, c2, he, b⟩
        go_wp2_with (go_at_call 18; refine HFM.out.mono ?_; rintro e w4 ⟨a1, c1, a2, c2, rfl, b4⟩; have B4 := hide (HBW.out.trans (b4.mono HBW.out.size)); clear b4)
        go_ret
        exact ⟨rfl, B4.out⟩
      · have hm0 : ¬ (ms.length : Int) = 0 := by have := List.length_pos_iff.2 h0; omega
        have hm1 : ((ms.length : Int) == 0) = false := by rw [beq_eq_false_iff_ne]; exact hm0
        clear h0
        have HTM := hide HST.out.times
        have HLT := hide (left_times (m := (runF l ms).top) (l := srt l))
        have hlen := HST.out.out.length_eq
        have HNM := hide (nms_perm HST.out.out)
        have HRE := hide HST.out.rest
        have HFI2 := hide (HFI.out (runF l ms).top)
        have HOL2 := hide (HOL.out (runF l ms).top)
        clear HFI HOL HST
        have HLS := hide (GL.out.seg HBW.out.size (by omega))
        obtain ⟨la, lc, rfl⟩ := HLS.out.shapeOf
        obtain ⟨aa, ac, rfl⟩ := GA.out.shape
        rw [hlen]
        generalize (runF l ms).top = tp at *
        generalize (runF l ms).all = al at *
        generalize (runF l ms).left = lf at *
        generalize outF tp (srt l) = oo at *
        generalize leftF tp (srt l) = rr at *
        have hool : (oo.length : Int) ≤ 1000 := by have := HOL2.out.1; omega
        have hrrl : (rr.length : Int) ≤ 1000 := by have := HOL2.out.2; omega
        go_wp2_with (first
          | (go_at_call 18; refine HFI2.out.mono ?_; rintro e w4 ⟨u1, u2, rfl, o1, o2, b4⟩; obtain ⟨oa, oc, rfl⟩ := o1.shape; obtain ⟨ra, rc, rfl⟩ := o2.shape; have B4 := hide b4; have O1 := hide o1; have O2 := hide o2; have HSO := hide (Sort_any (HLS.out.on B4.out) (by omega)); clear o1 o2 b4)
          | (go_at_call 24; refine HSO.out.mono ?_; rintro e w5 ⟨u5, rfl, o5, b5⟩; have B5 := hide b5; have S5 := hide (o5.seg Pn.cs_len (by rw [srt_len]; omega)); have R5 := hide ((O2.out.seg Pn.cs_len (by omega)).on B5.out); clear o5 b5; rw [← HRE.out] at S5; obtain ⟨sa, sc, rfl⟩ := S5.out.shapeOf; have HHP := hide (hPanes_any R5.out S5.out (by omega)))
          | (go_at_call 16; refine HHP.out.mono ?_; rintro e w6 ⟨rfl, b6⟩; have B6 := hide b6; clear b6))
        have R6 := hide (R5.out.on B6.out)
        have B46 := hide (B5.out.trans (B6.out.mono B5.out.size))
        have Br6 := hide (B4.out.trans (B46.out.mono B4.out.size))
        have O6 := hide ((O1.out.seg Rc.cs_len (by omega)).on B46.out)
        have A6 : Hid (LSeg 3 Rc.cs w6.heap.size w6 (.slice aa oo.length ac) al) := (show LSeg _ _ _ _ _ _ by rw [← hlen]; exact (GA.out.seg Rc.cs_len (by omega)).on Br6.out)
        have BW6 := hide (HBW.out.trans (Br6.out.mono HBW.out.size))
        clear R5 S5 O1 O2 B4 B5 B6 B46 Br6 HLS HRE HSO HHP HFI2 GA GL GB HBW
        go_loopg [13, 14] (oo.length + 1) (fun gh sv iv wq => ∃ (i : Nat) (q : Int), iv = .int .i64 (i : Int) ∧ i ≤ oo.length ∧ oo.length + 1 ≤ gh + i ∧ sv = .int .i64 (wrap64 q) ∧ Hid (q = nms (oo.take i) - nms (al.take i)) ∧ Hid (∀ B, Below B w6 wq))
        case atStart => exact ⟨0, 0, rfl, by omega, by omega, (by rw [wrap0]), (show (0 : Int) = _ by simp [nms]), (show ∀ B, _ from fun B => Below.refl _ _)⟩
        case round =>
          obtain ⟨i2, q, rfl, hi2, hg2, rfl, HQ, HD⟩ := hrel
          obtain ⟨go2, rfl⟩ : ∃ go2, gk = go2 + 1 := ⟨gk - 1, by omega⟩
          by_cases hlt2 : i2 < oo.length
          · obtain ⟨x, hx⟩ := get_of_lt hlt2
            obtain ⟨y, hy⟩ := get_of_lt (show i2 < al.length by omega)
            have bt : (i2 : Int) < (oo.length : Int) := by omega
            obtain ⟨b1, o1, rfl, _, e0, e1, e2⟩ := (O6.out.below (HD.out _)).rec hx
            obtain ⟨b2, o2, rfl, _, f0, f1, f2⟩ := (A6.out.below (HD.out _)).rec hy
            have hyt := HTM.out y (List.mem_of_getElem? hy)
            have HS1 := hide (nms_step hx)
            have HS2 := hide (nms_step hy)
            clear hx hy
            obtain ⟨xk, xt, xv⟩ := x
            obtain ⟨yk, yt, yv⟩ := y
            simp only at e0 e1 e2 f0 f1 f2 hyt
            have hyt2 : ¬ tp < yt := by omega
            go_wp2_with fail
            go_quiet (fail)
            go_wp2_with fail
            go_quiet (fail)
            go_wp2_with fail
            go_roundg go2
            case rel => exact ⟨i2 + 1, q + nm ⟨xk, xt, xv⟩ - nm ⟨yk, yt, yv⟩, by go_num, by omega, by omega, congrArg (Value.int .i64) (by rw [sum_up, sum_down]; rfl), (show _ = _ by rw [HS1.out, HS2.out, HQ.out]; omega), (show ∀ B, _ from fun B => below_drewN (HD.out B) _)⟩
            case measure => omega
          · have bt : ¬ (i2 : Int) < (oo.length : Int) := by omega
            have HQ0 : Hid (q = 0) := (show q = 0 by rw [HQ.out, List.take_of_length_le (by omega), List.take_of_length_le (by omega), HNM.out]; omega)
            have hq0 := HQ0.out
            subst hq0
            rw [wrap0]
            have HR7 := hide (R6.out.on (HD.out _))
            have HB7 := hide (BW6.out.trans (HD.out _))
            clear HQ HD HQ0
            go_wp2_with fail
            go_loopg [15] (rr.length + 1) (fun gh iv wq2 => ∃ i : Nat, iv = .int .i64 (i : Int) ∧ i ≤ rr.length ∧ rr.length + 1 ≤ gh + i ∧ Hid (∀ B, Below B wr wq2))
            case atStart => exact ⟨0, rfl, by omega, by omega, (show ∀ B, _ from fun B => Below.refl _ _)⟩
            case round =>
              obtain ⟨i3, rfl, hi3, hg3, HD3⟩ := hrel
              obtain ⟨go3, rfl⟩ : ∃ go3, gk = go3 + 1 := ⟨gk - 1, by omega⟩
              by_cases hlt3 : i3 < rr.length
              · obtain ⟨x, hx⟩ := get_of_lt hlt3
                have bt3 : (i3 : Int) < (rr.length : Int) := by omega
                obtain ⟨b1, o1, rfl, _, e0, e1, e2, e3⟩ := (HR7.out.below (HD3.out _)).pane hx
                have hxt := HLT.out x (List.mem_of_getElem? hx)
                clear hx
                obtain ⟨xk, xf, xt, xa⟩ := x
                simp only at e0 e1 e2 e3 hxt
                go_wp2_with fail
                go_roundg go3
                case rel => exact ⟨i3 + 1, by go_num, by omega, by omega, HD3⟩
                case measure => omega
              · have bt3 : ¬ (i3 : Int) < (rr.length : Int) := by omega
                go_wp2_with fail
                go_ret
                exact ⟨rfl, HB7.out.trans (HD3.out _)⟩
end Go.Proofs.Ytlikikiglicdlaa
