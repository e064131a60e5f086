/-
  Texts in build order: OAsd.
-/
import Derived.Test.YtpcbhcdpegbfjaaGreatM03
import Derived.Test.YtpcbhcdpegbfjaaGreatM12
/-
 A keyed operator with panes aside, as it lies; settle.
-/
namespace Go.Proofs.YtpcbhcdpegbfjaaGreat
set_option maxHeartbeats 16000000
set_option maxRecDepth 100000
open Go.RowKit
def FK (K : Nat) (av : Value) (fp : Nat → Prop) (i : Nat) : Prop := i = K ∨ av.ownBlock = some i ∨ fp i
structure KA (W : World) (K tK : Nat) (rest : List Value) (s : Nat) (kd size slide a : Int) (fp : Nat → Prop) (M A : List Pn) (av : Value) (g d : Int) : Prop where
 kb : BoxT tK W K (Value.pointer (some ⟨s, 0, none⟩) :: av :: .int .i64 g :: .int .i64 d :: rest).toArray
 tk : tK = 102 ∨ tK = 99
 sa : SA W s kd size slide a fp M
 row : Row 79 4 Pn.cs 0 W av A
 nk : ¬ fp K
 na : ∀ q, av.ownBlock = some q → ¬ fp q
 ok : ∀ x ∈ A, PnOk x ∧ (kd = 3 → x.f < x.t)
 az : A = [] → av = .slice none 0 0
section
variable {W W' : World} {K tK s : Nat} {rest : List Value} {kd size slide a : Int} {fp fp' : Nat → Prop} {M M' A : List Pn} {av : Value} {g d : Int}
theorem BoxT.back' {t : TypeId} {w w' : World} {k : Nat} {cs : Array Value} (h : BoxT t w k cs) (hb : w'.heap[k]? = w.heap[k]?) : BoxT t w' k cs := by
 unfold BoxT at *
 rw [hb]; exact h
theorem BoxT.ne' {t t' : TypeId} {w : World} {k k' : Nat} {cs cs' : Array Value} (h : BoxT t w k cs) (h' : BoxT t' w k' cs') (ht : t ≠ t') : k ≠ k' := fun e => by
 subst e
 unfold BoxT at h h'
 rw [h] at h'
 simp at h'
 exact ht h'.2
theorem KA.nq (h : KA W K tK rest s kd size slide a fp M A av g d) : ∀ q, av.ownBlock = some q → q ≠ K := fun q e => by
 obtain ⟨cur, hc⟩ := h.row.has q e
 refine BoxT.ne' hc h.kb ?_
 rcases h.tk with rfl | rfl <;> decide
theorem KA.below (h : KA W K tK rest s kd size slide a fp M A av g d) (hb : Below W.heap.size W W') : KA W' K tK rest s kd size slide a fp M A av g d :=
 ⟨h.kb.below hb, h.tk, h.sa.below hb, h.row.below hb, h.nk, h.na, h.ok, h.az⟩
theorem KA.c0 (h : KA W K tK rest s kd size slide a fp M A av g d) : W.cell? ⟨K, 0, none⟩ = some (.pointer (some ⟨s, 0, none⟩)) := h.kb.cellAt 0
theorem KA.c1 (h : KA W K tK rest s kd size slide a fp M A av g d) : W.cell? ⟨K, 1, none⟩ = some av := h.kb.cellAt 1
theorem KA.c2 (h : KA W K tK rest s kd size slide a fp M A av g d) : W.cell? ⟨K, 2, none⟩ = some (.int .i64 g) := h.kb.cellAt 2
theorem KA.c3 (h : KA W K tK rest s kd size slide a fp M A av g d) : W.cell? ⟨K, 3, none⟩ = some (.int .i64 d) := h.kb.cellAt 3
theorem KA.flt (h : KA W K tK rest s kd size slide a fp M A av g d) : ∀ i, FK K av fp i → i < W.heap.size := fun i hi => by
 rcases hi with rfl | e | e
 ·exact h.kb.lt
 ·obtain ⟨cur, hc⟩ := h.row.has i e
  exact hc.lt
 ·exact h.sa.flt i e
theorem KA.seg (h : KA W K tK rest s kd size slide a fp M A av g d) (hn : A.length ≤ 90000) : LSeg 4 Pn.cs W.heap.size W av A := h.row.seg Pn.cs_len (by omega)
theorem FT.fk (h : FT fp fp' W W') (K : Nat) {av av' : Value} (hv : ∀ i, av'.ownBlock = some i → av.ownBlock = some i ∨ W.heap.size ≤ i) : FT (FK K av fp) (FK K av' fp') W W' :=
 ⟨h.os, h.tape, h.output, h.size, fun i hi hn => h.block i hi (fun e => hn (.inr (.inr e))), fun i hi => by
  rcases hi with rfl | e | e
  ·exact .inl (.inl rfl)
  ·rcases hv i e with e2 | e2
   ·exact .inl (.inr (.inl e2))
   ·exact .inr e2
  ·rcases h.sub i e with e2 | e2
   ·exact .inl (.inr (.inr e2))
   ·exact .inr e2⟩
theorem FT.setFK (W : World) (K : Nat) (av : Value) (fp : Nat → Prop) (j : Nat) (v : Value) : FT (FK K av fp) (FK K av fp) W (W.setCell ⟨K, j, none⟩ v) :=
 ⟨rfl, rfl, rfl, by simp, fun i _ hn => Below.heap_setCell W ⟨K, j, none⟩ _ i (fun e => hn (.inl e)), fun _ h => .inl h⟩
theorem FT.lose {fq fq' fr : Nat → Prop} (h : FT fq fq' W W') (hs : ∀ i, fr i → fq' i) : FT fq fr W W' := ⟨h.os, h.tape, h.output, h.size, h.block, fun i hi => h.sub i (hs i hi)⟩
theorem KA.turn (h : KA W K tK rest s kd size slide a fp M A av g d) (hs : SA W' s kd size slide a fp' M') (hf : FT fp fp' W W') : KA W' K tK rest s kd size slide a fp' M' A av g d := by
 have lk := h.kb.lt
 refine ⟨h.kb.back' (hf.block K lk h.nk), h.tk, hs, h.row.back (fun q e => ?_), fun e => ?_, fun q e e2 => ?_, h.ok, h.az⟩
 ·obtain ⟨cur, hc⟩ := h.row.has q e
  exact hf.block q hc.lt (h.na q e)
 ·rcases hf.sub K e with e2 | e2
  ·exact h.nk e2
  ·omega
 ·obtain ⟨cur, hc⟩ := h.row.has q e
  have := hc.lt
  rcases hf.sub q e2 with e3 | e3
  ·exact h.na q e e3
  ·omega
theorem SA.setK (hs : SA W s kd size slide a fp M) (hk : ¬ fp K) (j : Nat) (v : Value) : SA (W.setCell ⟨K, j, none⟩ v) s kd size slide a fp M :=
 hs.back (fun i hi => Below.heap_setCell W ⟨K, j, none⟩ _ i (fun e => hk (by have e2 : i = K := e; rw [← e2]; exact hi))) (by simp)
theorem KA.setG (h : KA W K tK rest s kd size slide a fp M A av g d) (m : Int) : KA (W.setCell ⟨K, 2, none⟩ (.int .i64 m)) K tK rest s kd size slide a fp M A av m d := by
 refine ⟨?_, h.tk, h.sa.setK h.nk _ _, h.row.back (fun q e => Below.heap_setCell W ⟨K, 2, none⟩ _ q (h.nq q e)), h.nk, h.na, h.ok, h.az⟩
 have h1 := BoxT.set h.kb 2 (.int .i64 m)
 simpa using h1
theorem KA.setD (h : KA W K tK rest s kd size slide a fp M A av g d) (m : Int) : KA (W.setCell ⟨K, 3, none⟩ (.int .i64 m)) K tK rest s kd size slide a fp M A av g m := by
 refine ⟨?_, h.tk, h.sa.setK h.nk _ _, h.row.back (fun q e => Below.heap_setCell W ⟨K, 3, none⟩ _ q (h.nq q e)), h.nk, h.na, h.ok, h.az⟩
 have h1 := BoxT.set h.kb 3 (.int .i64 m)
 simpa using h1
theorem KA.setA (h : KA W K tK rest s kd size slide a fp M A av g d) {A' : List Pn} {av' : Value} (hr : Row 79 4 Pn.cs 0 W av' A') (hn : ∀ q, av'.ownBlock = some q → ¬ fp q) (ho : ∀ x ∈ A', PnOk x ∧ (kd = 3 → x.f < x.t)) (hz : A' = [] → av' = .slice none 0 0) : KA (W.setCell ⟨K, 1, none⟩ av') K tK rest s kd size slide a fp M A' av' g d := by
 refine ⟨?_, h.tk, h.sa.setK h.nk _ _, hr.back (fun q e => Below.heap_setCell W ⟨K, 1, none⟩ _ q (?_ : q ≠ K)), h.nk, hn, ho, hz⟩
 ·have h1 := BoxT.set h.kb 1 av'
  simpa using h1
 ·obtain ⟨cur, hc⟩ := hr.has q e
  refine BoxT.ne' hc h.kb ?_
  rcases h.tk with rfl | rfl <;> decide
end
theorem below_grown {B : Nat} {a w w' : World} {r : Option Nat} (hb : Below B a w) (hg : w.grownBy w' r) (hs : a.heap.size = B) (hr : ∀ q, r = some q → B ≤ q) : Below B a w' :=
 ⟨hg.os.trans hb.os, hg.tape.trans hb.tape, hg.output.trans hb.output, Nat.le_trans hb.size hg.size, fun i hi => (hg.block i (by have := hb.size; omega) (fun e => by have := hr i e.symm; omega)).trans (hb.block i hi)⟩
theorem step_rowS {w : World} {ops : Array Oper} {o : Oper} {a : Act} {K : Act → World → Prop} {Q : Exit → Act → World → Prop} {E : Prop} (hgd : o.guard = none) (s x : Operand)
  (ho : o.op = .call { callee := .builtin .append, args := #[s, x], argTypes := #[47, 47] }) (base : Nat) (v : Value) (xs : List Pn) (hs : a.eval s = v) (hown : Row 79 4 Pn.cs base w v xs)
  (B : Nat) (v2 : Value) (ys : List Pn) (hx : a.eval x = v2) (hseg : LSeg 4 Pn.cs B w v2 ys) (hl : xs.length + ys.length ≤ 1000000) (hbase : base ≤ w.heap.size)
  (h : ∀ v' w', Row 79 4 Pn.cs base w' v' (xs ++ ys) → w.grownBy w' v.ownBlock → (∀ g, v'.ownBlock = some g → v.ownBlock = some g ∨ w.heap.size ≤ g) → K (a.put o.dst v') w') :
  if Region.wanted o (yielded ops a.tmps) = true then Oper.wp Tryz.prog o a w K Q else E := by
 have hw : Region.wanted o (yielded ops a.tmps) = true := by simp [Region.wanted, hgd]
 rw [if_pos hw]
 obtain ⟨v', w', hr, h2, h3, h4⟩ := run_panesS o.type base hown hseg hl hbase
 unfold Oper.wp execOp
 simp only [ho, resolve, invoke, builtin, Sem.run_bind, Sem.run_pure, Result.andThen_ok, List.map_toArray, List.map_cons, List.map_nil, hs, hx, hr]
 exact h v' w' h2 h3 h4
theorem app_rowS {w : World} {ops : Array Oper} {rest : List Oper} {o : Oper} {a : Act} {Q : Exit → Act → World → Prop} (hgd : o.guard = none) (s x : Operand)
  (ho : o.op = .call { callee := .builtin .append, args := #[s, x], argTypes := #[47, 47] }) (base : Nat) (v : Value) (xs : List Pn) (hs : a.eval s = v) (hown : Row 79 4 Pn.cs base w v xs)
  (B : Nat) (v2 : Value) (ys : List Pn) (hx : a.eval x = v2) (hseg : LSeg 4 Pn.cs B w v2 ys) (hl : xs.length + ys.length ≤ 1000000) (hbase : base ≤ w.heap.size)
  (h : ∀ v' w', Row 79 4 Pn.cs base w' v' (xs ++ ys) → w.grownBy w' v.ownBlock → (∀ g, v'.ownBlock = some g → v.ownBlock = some g ∨ w.heap.size ≤ g) → wpList Tryz.prog ops Q rest (a.put o.dst v') w') : wpList Tryz.prog ops Q (o :: rest) a w := by
 refine wpList_plain hgd fun Kc hK => ?_
 obtain ⟨v', w', hr, h2, h3, h4⟩ := run_panesS o.type base hown hseg hl hbase
 unfold Oper.wp execOp
 simp only [ho, resolve, invoke, builtin, Sem.run_bind, Sem.run_pure, Result.andThen_ok, List.map_toArray, List.map_cons, List.map_nil, hs, hx, hr]
 exact hK _ _ (h v' w' h2 h3 h4)
def StPost (W : World) (K tK : Nat) (rest : List Value) (s : Nat) (kd size slide a : Int) (fp : Nat → Prop) (M A : List Pn) (av : Value) (g d : Int) (e : Ending) (w' : World) : Prop :=
 e = .returned (.tuple #[]) ∧ ∃ fp' M', KA w' K tK rest s kd size slide a fp' M' [] (.slice none 0 0) g d ∧ FT (FK K av fp) (FK K (.slice none 0 0) fp') W w' ∧ ((A = [] ∧ M' = M) ∨ Comes (sess kd) (jn a) (srt M ++ A) M')
theorem settle_any {W : World} {K tK s : Nat} {rest : List Value} {kd size slide a : Int} {fp : Nat → Prop} {M A : List Pn} {av : Value} {g d : Int} (h : KA W K tK rest s kd size slide a fp M A av g d) (hn : M.length + A.length ≤ 90000) (hM : kd = 3 → ∀ x ∈ M, x.f < x.t) :
  Calls Tryz.prog 93 #[.pointer (some ⟨K, 0, none⟩)] W (StPost W K tK rest s kd size slide a fp M A av g d) := by
 have c1 := h.c1
 by_cases hA : A = []
 ·have e := h.az hA
  subst e
  have H := hide h
  have HA := hide hA
  clear h hA hn hM
  go_enter Tryz.func93, Tryz.ntmps93
  go_wp2_with fail
  refine bodyPost_ret (v := .tuple #[]) (by simp [results, Tryz.results93, go_sem]) rfl ⟨rfl, fp, M, ?_, FT.refl _ _, .inl ⟨HA.out, rfl⟩⟩
  have := H.out
  rw [HA.out] at this
  exact this
 have hpos : 0 < A.length := List.length_pos_iff.2 hA
 have hne : (((A.length : Nat) : Int) == 0) = false := by rw [beq_eq_false_iff_ne]; omega
 obtain ⟨aa, ac, rfl⟩ := h.row.shape
 have hd : Below W.heap.size W W.drew := (Below.refl _ _).drew
 have HP := hide (Panes_any (h.sa.below hd) (by omega))
 have H := hide h
 have HM := hide hM
 have HNN := hide hn
 have hokM : ∀ x ∈ M, PnOk x := by
  obtain ⟨m, o, fq, R, hst, _⟩ := h.sa
  exact hst.ok
 have HOK := hide (show ∀ x ∈ srt M ++ A, PnOk x ∧ (kd = 3 → x.f < x.t) from fun x hx => by
  rcases List.mem_append.1 hx with hx | hx
  ·have hx2 := (srt_perm M).mem_iff.1 hx
   exact ⟨hokM x hx2, fun e => hM e x hx2⟩
  ·exact h.ok x hx)
 have KC := hide (show ∀ w' : World, Below W.heap.size W w' → w'.cell? ⟨K, 0, none⟩ = some (.pointer (some ⟨s, 0, none⟩)) ∧ w'.cell? ⟨K, 1, none⟩ = some (.slice aa A.length ac) from fun w' hb => ⟨(h.below hb).c0, (h.below hb).c1⟩)
 have HL := hide (show (srt M).length = M.length from srt_len M)
 clear h hM hn hokM hA
 go_enter Tryz.func93, Tryz.ntmps93
 go_upto_region 1 with fail
 clear c1
 refine wp_region_M (S := fun w' => w'.cell? ⟨K, 0, none⟩ = some (.pointer (some ⟨s, 0, none⟩)) ∧ w'.cell? ⟨K, 1, none⟩ = some (.slice aa A.length ac)) (late := []) (by kernel_rfl) (KC.out _ (Below.refl _ _).drew) (fun hH => ?_)
 (try simp only [nr, Nat.reduceAdd])
 refine tkA 0 hH ?_; simp only [nm]; refine tkA 1 hH ?_; simp only [nm]; refine tkA 2 hH ?_; simp only [nm]; refine tkA 3 hH ?_; simp only [nm]; refine tkA 4 hH ?_; simp only [nm]; refine tkA 5 hH ?_; simp only [nm]; refine tkA 6 hH ?_; simp only [nm]; refine tkA 7 hH ?_; simp only [nm]; refine tkA 9 hH ?_; simp only [nm]; refine tkA 10 hH ?_; simp only [nm]; refine tkA 11 hH ?_; simp only [nm]; refine tkA 12 hH ?_; simp only [nm]
 refine tkO 8 fun Kc hK => ?_
 go_simp
 go_at_call 96
 refine (HP.out).mono ?_
 rintro e w2 ⟨u, rfl, r2, b2⟩
 have B2 := hide (show Below W.heap.size W w2 from (Below.refl _ _).drew.trans b2)
 have R2 := hide r2
 have S2 := hide ((H.out.below B2.out).seg (by have := HNN.out; omega))
 clear r2 b2
 refine hK.out _ _ (KC.out _ B2.out) (fun hH => ?_)
 clear hK Kc
 (try simp only [nm])
 refine tkO 13 fun Kc hK => ?_
 refine step_rowS rfl _ _ rfl W.heap.size u (srt M) rfl R2.out _ _ A rfl S2.out (by have := HL.out; have := HNN.out; omega) B2.out.size ?_
 intro v3 w3 r3 g3 q3
 have B3 := hide (below_grown B2.out g3 rfl (fun q e => R2.out.at q e))
 have R3 := hide r3
 clear r3 g3 q3 S2
 refine hK.out _ _ (KC.out _ B3.out) (fun hH => ?_)
 clear hK Kc
 (try simp only [nm])
 have H3 := hide (H.out.below B3.out)
 have HLD := hide (Load_any H3.out.sa (R3.out.seg Pn.cs_len (by have := HL.out; have := HNN.out; simp; omega)) (fun q e e2 => by have := R3.out.at q e; have := H.out.sa.flt q e2; omega) HOK.out (by have := HL.out; have := HNN.out; simp; omega))
 refine tkO 14 fun Kc hK => ?_
 go_simp
 go_at_call 94
 refine (HLD.out).mono ?_
 rintro e w5 ⟨rfl, fp5, M5, s5, t5, c5⟩
 have H5 := hide (H3.out.turn s5 t5)
 have T5 := hide (t5.fk K (av := .slice aa A.length ac) (av' := .slice aa A.length ac) (fun i e => .inl e))
 have C5 := hide c5
 clear s5 t5 c5
 refine hK.out _ _ ((show _ ∧ _ from ⟨H5.out.c0, H5.out.c1⟩)) (fun hH => ?_)
 clear hK Kc
 (try simp only [nm])
 refine wpAnyM_done (by kernel_rfl) ?_ _
 have fr := BoxT.free H5.out.kb
 go_wp2_with fail
 refine bodyPost_ret (v := .tuple #[]) (by simp [results, Tryz.results93, go_sem]) rfl ⟨rfl, fp5, M5, H5.out.setA (Row.nil _ _ _ _ _) (fun q e => by cases e) (fun x hx => by cases hx) (fun _ => rfl), ?_, .inr C5.out⟩
 refine FT.lose (((FT.of_below (fp := FK K (.slice aa A.length ac) fp) B3.out).trans T5.out).trans (FT.setFK _ K _ fp5 1 _)) (fun i hi => ?_)
 rcases hi with e | e | e
 ·exact .inl e
 ·cases e
 ·exact .inr (.inr e)
end Go.Proofs.YtpcbhcdpegbfjaaGreat
