/-
  New, Last, All, Staged.
-/
import Derived.Test.YteafnohponbbeaaKCat
namespace Go.Proofs.Yteafnohponbbeaa
open Go.RowKit

theorem wp_lookM {P : Program} {w : World} {ops : Array Oper} {rest : List Oper} {o : Oper} {a : Act} {Q : Exit → Act → World → Prop} (hg : o.guard = none) (m x : Operand) (t : TypeId) (c : Bool) (hop : o.op = Op.lookup t m x c) (mv kv : Value) (hm : a.eval m = mv) (hx : a.eval x = kv) {v : Value} (hrun : (Instr.lookup t mv kv c).run P w = .ok v w)
    (h : wpList P ops Q rest (a.put o.dst v) w) : wpList P ops Q (o :: rest) a w := by
  refine wpList_plain hg fun K' hK' => ?_
  unfold Oper.wp
  simp [execOp, hop, hm, hx, hrun, Result.andThen]
  exact hK' _ _ h
theorem wp_putM {P : Program} {w : World} {ops : Array Oper} {rest : List Oper} {o : Oper} {a : Act} {Q : Exit → Act → World → Prop} (hg : o.guard = none) (m x v : Operand) (t : TypeId) (hop : o.op = Op.mapUpdate t m x v) (mv kv vv : Value) (hm : a.eval m = mv) (hx : a.eval x = kv) (hv : a.eval v = vv) {w' : World} (hrun : (Instr.mapUpdate t mv kv vv).run P w = .ok () w')
    (h : wpList P ops Q rest (a.put o.dst undef) w') : wpList P ops Q (o :: rest) a w := by
  refine wpList_plain hg fun K' hK' => ?_
  unfold Oper.wp
  simp [execOp, hop, hm, hx, hv, hrun, Result.andThen]
  exact hK' _ _ h
theorem wp_delM {P : Program} {w : World} {ops : Array Oper} {rest : List Oper} {o : Oper} {a : Act} {Q : Exit → Act → World → Prop} (hg : o.guard = none) (m x : Operand) (t k : TypeId) (hop : o.op = Op.call { callee := Callee.builtin Builtin.delete, args := #[m, x], argTypes := #[t, k] }) (mv kv : Value) (hm : a.eval m = mv) (hx : a.eval x = kv) {w' : World} (hrun : (Builtin.delete_ #[t, k] o.type #[mv, kv]).run P w = .ok (.tuple #[]) w')
    (h : wpList P ops Q rest (a.put o.dst (.tuple #[])) w') : wpList P ops Q (o :: rest) a w := by
  refine wpList_plain hg fun K' hK' => ?_
  unfold Oper.wp
  simp [execOp, hop, resolve, invoke, builtin, hm, hx, hrun, Result.andThen]
  exact hK' _ _ h
theorem step_put_run {P : Program} {w : World} {ops : Array Oper} {o : Oper} {a : Act} {K : Act → World → Prop} {Q : Exit → Act → World → Prop} {E : Prop} (hgd : o.guard = none) (m x v : Operand) (t : TypeId) (hop : o.op = Op.mapUpdate t m x v) (mv kv vv : Value) (hm : a.eval m = mv) (hx : a.eval x = kv) (hv : a.eval v = vv) {w' : World} (hrun : (Instr.mapUpdate t mv kv vv).run P w = .ok () w')
    (h : K (a.put o.dst undef) w') : if Region.wanted o (yielded ops a.tmps) = true then Oper.wp P o a w K Q else E := by
  have hw : Region.wanted o (yielded ops a.tmps) = true := by simp [Region.wanted, hgd]
  rw [if_pos hw]
  unfold Oper.wp
  simp [execOp, hop, hm, hx, hv, hrun, Result.andThen]
  exact h
/-- A part's value, with its slices' shapes. -/
theorem PtOk.shape {w : World} {fq : Nat → Prop} {p : Pt} (h : PtOk w fq p) : ∃ ca cc sa sc, p.cv = .slice ca p.com.length cc ∧ p.sv = .slice sa p.stg.length sc ∧ ptV p = .agg #[.slice ca p.com.length cc, .slice sa p.stg.length sc, .int .u64 (p.last : Int)] := by
  obtain ⟨ca, cc, h1⟩ := h.cr.shape
  obtain ⟨sa, sc, h2⟩ := h.sr.shape
  exact ⟨ca, cc, sa, sc, h1, h2, by unfold ptV; rw [h1, h2]⟩
theorem part_f1 (c0 c1 c2 : Value) (W : World) : (Instr.field 65 (.agg #[c0, c1, c2]) 1).run Try.prog W = .ok c1 W := by kernel_rfl
theorem part_f2 (c0 c1 c2 : Value) (W : World) : (Instr.field 65 (.agg #[c0, c1, c2]) 2).run Try.prog W = .ok c2 W := by kernel_rfl
theorem LX.below {w w' : World} {l mm : Nat} {ov : Value} {fq : Nat → Prop} {f : Int → PS} {O : List Tx} {W : Nat} {Ms : List Pt} (h : LX w l mm ov fq f O W Ms) (hb : Below w.heap.size w w') : LX w' l mm ov fq f O W Ms :=
  ⟨h.g.below hb, h.p, h.mp.back (hb.block mm h.g.ml), h.s⟩
theorem LX.back {w w' : World} {l mm : Nat} {ov : Value} {fq : Nat → Prop} {f : Int → PS} {O : List Tx} {W : Nat} {Ms : List Pt} (h : LX w l mm ov fq f O W Ms) (hb : ∀ i, FP l mm fq i → w'.heap[i]? = w.heap[i]?) (hs : w.heap.size ≤ w'.heap.size) : LX w' l mm ov fq f O W Ms := by
  have hf : ∀ i, fq i → w'.heap[i]? = w.heap[i]? := fun i hi => hb i (.inr (.inr hi))
  have hx : ∀ x, TxOk w fq x → TxOk w' fq x := fun x hx => ⟨hx.row.back (fun g e => hf g (hx.fr g e)), hx.fr⟩
  have h0 := h.g
  exact ⟨{ box := h0.box.back (hb l (.inl rfl)), out := h0.out.back (fun g e => hf g (h0.ofr g e)), oks := fun x h1 => hx x (h0.oks x h1)
           pts := fun p hp => by
             have h1 := h0.pts p hp
             exact ⟨h1.cr.back (fun g e => hf g (h1.fr g (.inl e))), h1.sr.back (fun g e => hf g (h1.fr g (.inr e))), h1.fr, h1.cs, fun x h2 => hx x (h1.co x h2), fun x h2 => hx x (h1.so x h2)⟩
           ap := h0.ap, ofr := h0.ofr, flt := fun i hi => Nat.lt_of_lt_of_le (h0.flt i hi) hs, nl := h0.nl, nm := h0.nm, ml := Nat.lt_of_lt_of_le h0.ml hs, lm := h0.lm }, h.p, h.mp.back (hb mm (.inr (.inl rfl))), h.s⟩
theorem LA.back {w w' : World} {l : Nat} {fp : Nat → Prop} {f : Int → PS} {o : List (List Rc)} {W : Nat} (h : LA w l fp f o W) (hb : ∀ i, fp i → w'.heap[i]? = w.heap[i]?) (hs : w.heap.size ≤ w'.heap.size) : LA w' l fp f o W := by
  obtain ⟨mm, ov, fq, O, Ms, h, ho, hf⟩ := h
  exact ⟨mm, ov, fq, O, Ms, h.back (fun i hi => hb i ((hf i).2 hi)) hs, ho, hf⟩
theorem LA.flt {w : World} {l : Nat} {fp : Nat → Prop} {f : Int → PS} {o : List (List Rc)} {W : Nat} (h : LA w l fp f o W) : ∀ i, fp i → i < w.heap.size := by
  obtain ⟨mm, ov, fq, O, Ms, h, ho, hf⟩ := h
  intro i hi
  rcases (hf i).1 hi with rfl | rfl | hi
  · exact h.g.box.lt
  · exact h.g.ml
  · exact h.g.flt i hi
theorem LA.below {w w' : World} {l : Nat} {fp : Nat → Prop} {f : Int → PS} {o : List (List Rc)} {W : Nat} (h : LA w l fp f o W) (hb : Below w.heap.size w w') : LA w' l fp f o W :=
  h.back (fun i hi => hb.block i (h.flt i hi)) hb.size
theorem LA.up {w : World} {l : Nat} {fp : Nat → Prop} {f : Int → PS} {o : List (List Rc)} {W W' : Nat} (h : LA w l fp f o W) (hw : W ≤ W') : LA w l fp f o W' := by
  obtain ⟨mm, ov, fq, O, Ms, h, ho, hf⟩ := h
  exact ⟨mm, ov, fq, O, Ms, ⟨h.g, ⟨h.p.keys, h.p.pp, Nat.le_trans h.p.wt hw, h.p.cw⟩, h.mp, h.s⟩, ho, hf⟩
set_option maxHeartbeats 4000000 in
set_option maxRecDepth 100000 in
theorem New_any (w : World) : Calls Try.prog 10 #[] w fun e w' => ∃ l fp, e = .returned (.pointer (some ⟨l, 0, none⟩)) ∧ LA w' l fp (fun _ => emp) [] 0 ∧ Below w.heap.size w w' ∧ ∀ i, fp i → w.heap.size ≤ i := by
  have hmm := @run_makeMap Try.prog
  go_enter Try.func10, Try.ntmps10
  go_wp2_with fail
  go_ret
  refine ⟨_, FP (w.heap.size + 1) w.heap.size (fun _ => False), rfl, ⟨w.heap.size, .slice none 0 0, fun _ => False, [], [], ⟨{ box := BoxT.new_at (t := 62) (by simp), out := OwnL.nil _ _ _ _ _, oks := fun x hx => (List.not_mem_nil hx).elim, pts := fun x hx => (List.not_mem_nil hx).elim, ap := List.Pairwise.nil, ofr := fun g e => (by cases e), flt := fun i hi => hi.elim, nl := fun e => e, nm := fun e => e, ml := by simp; omega, lm := by omega }, ⟨List.Pairwise.nil, fun x hx => (List.not_mem_nil hx).elim, by simp [sumw, sumS], fun x hx => (List.not_mem_nil hx).elim⟩, ?_, ⟨fun x hx => (List.not_mem_nil hx).elim, fun _ _ => rfl⟩⟩, rfl, fun i => Iff.rfl⟩, ?_, fun i hi => ?_⟩
  · exact (MapAt.made Try.prog 3 w).back (Below.heap_alloc _ _ _ (by simp))
  · exact ((Below.refl _ _).alloc (Nat.le_refl _) _).alloc (by simp) _
  · rcases hi with e | e | e
    · omega
    · omega
    · exact e.elim
set_option maxHeartbeats 4000000 in
set_option maxRecDepth 100000 in
theorem Last_any {w : World} {l mm : Nat} {ov : Value} {fq : Nat → Prop} {f : Int → PS} {O : List Tx} {W : Nat} {Ms : List Pt} (h : LX w l mm ov fq f O W Ms) {k : Int} (hk : In64 k) :
    Calls Try.prog 19 #[.pointer (some ⟨l, 0, none⟩), .int .i64 k] w fun e w' => e = .returned (.int .u64 ((f k).last : Int)) ∧ w = w' := by
  obtain ⟨p, R, P⟩ := h.pick hk
  have hlook := P.look w rfl
  have e1 : (f k).last = p.last := by rw [P.ps]; rfl
  rw [e1]
  obtain ⟨ca, cc, sa, sc, -, -, hv⟩ := (P.g.pts p (List.mem_cons_self ..)).shape
  rw [hv] at hlook
  obtain ⟨c0, c1⟩ := P.g.box.cells2
  clear h P e1 hv
  generalize p.com.length = cn at *
  generalize p.stg.length = sn at *
  have hf := part_f2 (.slice ca cn cc) (.slice sa sn sc) (.int .u64 (p.last : Int)) w
  go_enter Try.func19, Try.ntmps19
  go_wp2_with (at_lookup; refine wp_lookM rfl _ _ 59 false rfl _ _ rfl rfl hlook ?_)
  go_ret
  exact ⟨rfl, rfl⟩
set_option maxHeartbeats 4000000 in
set_option maxRecDepth 100000 in
theorem All_any {w : World} {l mm : Nat} {ov : Value} {fq : Nat → Prop} {f : Int → PS} {O : List Tx} {W : Nat} {Ms : List Pt} (h : LX w l mm ov fq f O W Ms) (hW : W ≤ 500000) :
    Calls Try.prog 18 #[.pointer (some ⟨l, 0, none⟩)] w fun e w' => ∃ u, e = .returned u ∧ OwnL 39 3 Rc.cs w.heap.size w' u (O.map Tx.rs).flatten ∧ Below w.heap.size w w' := by
  obtain ⟨c0, c1⟩ := h.g.box.cells2
  have h1 := h.p.wt
  have h2 := sumw_flat O
  have h3 := sumw_len O
  have hr : ∀ x ∈ O, x.rs.length ≤ 500000 := fun x hx => by
    have h4 : x.rs.length ≤ sumw O := by
      obtain ⟨a, b, rfl⟩ := List.append_of_mem hx
      rw [sumw_append, sumw_cons]; omega
    omega
  have HC := hide (ConcatRc_any (h.g.out.seg Tx.c1_len (by omega)) (Nat.le_refl _) (fun x hx => (h.g.oks x hx).row.seg Rc.cs_len (by have := hr x hx; omega)) (by omega) (by omega))
  clear h h1 h2 h3 hr
  go_enter Try.func18, Try.ntmps18
  go_wp2_with (first | (go_at_call 32; refine HC.out.mono ?_; rintro e w1 ⟨u, rfl, o1, b1⟩; have O1 := hide o1; have B1 := hide b1; clear o1 b1) | fail)
  go_ret
  exact ⟨_, rfl, O1.out, B1.out⟩
theorem newU (w : World) (x : Nat) : ∀ (j : Nat) (u : Value), (u64cs x)[j]? = some u → (w.alloc (.cells #[.int .u64 (x : Int)] 32)).cell? ((⟨w.heap.size, 0, none⟩ : Addr).add j) = some u := by
  intro j u hu
  have hb : BoxT 32 (w.alloc (.cells #[.int .u64 (x : Int)] 32)) w.heap.size #[.int .u64 (x : Int)] := BoxT.new _ _ _
  rw [add_plain2, hb.cellAt]
  match j, hu with
  | 0, hu => simpa [u64cs] using hu
  | j + 1, hu => simp [u64cs] at hu
set_option maxHeartbeats 4000000 in
set_option maxRecDepth 100000 in
theorem Staged_any {w : World} {l mm : Nat} {ov : Value} {fq : Nat → Prop} {f : Int → PS} {O : List Tx} {W : Nat} {Ms : List Pt} (h : LX w l mm ov fq f O W Ms) (hW : W ≤ 500000) {k : Int} (hk : In64 k) :
    Calls Try.prog 22 #[.pointer (some ⟨l, 0, none⟩), .int .i64 k] w fun e w' => ∃ u, e = .returned u ∧ OwnL 32 1 u64cs w.heap.size w' u ((f k).stg.map Prod.fst) ∧ Below w.heap.size w w' := by
  obtain ⟨p, R, P⟩ := h.pick hk
  have hlook := P.look w rfl
  have e1 : (f k).stg.map Prod.fst = p.stg.map Tx.n := by rw [P.ps]; simp [Pt.ps, Tx.pr]
  rw [e1]
  unfold ptV at hlook
  obtain ⟨c0, c1⟩ := P.g.box.cells2
  have hp := P.g.pts p (List.mem_cons_self ..)
  have hlen : p.stg.length ≤ 500000 := by
    have := P.pl.wt
    rw [sumS_cons] at this
    have := sumw_len p.stg
    omega
  have hs := hp.sr.seg Tx.cs_len (by omega)
  obtain ⟨ao, cap, hsv⟩ := hs.shapeOf
  rw [hsv] at hs hlook
  have hf := part_f1 p.cv (.slice ao p.stg.length cap) (.int .u64 (p.last : Int)) w
  have HL := hide hs
  generalize p.stg = S at *
  clear h P e1 hp hs hsv
  go_enter Try.func22, Try.ntmps22
  go_wp2_with (at_lookup; refine wp_lookM rfl _ _ 59 false rfl _ _ rfl rfl hlook ?_)
  go_loopg [5, 7, 16] (S.length + 1) (fun gh uv tv iv wr => ∃ i : Nat, iv = .int .i64 (i : Int) ∧ i ≤ S.length ∧ S.length + 1 ≤ gh + i ∧ Hid (OwnL 32 1 u64cs w.heap.size wr uv ((S.take i).map Tx.n)) ∧ Hid (Below w.heap.size w wr))
  case atStart => exact ⟨0, rfl, by omega, by omega, (show OwnL _ _ _ _ _ _ _ by simpa using OwnL.nil _ _ _ _ _), Below.refl _ _⟩
  case round =>
    obtain ⟨i, rfl, hi, hg, HO, HB⟩ := hrel
    obtain ⟨go, rfl⟩ : ∃ go, gk = go + 1 := ⟨gk - 1, by omega⟩
    by_cases hlt : i < S.length
    · obtain ⟨x, hxx⟩ := get_of_lt hlt
      have bt : (i : Int) < (S.length : Int) := by omega
      obtain ⟨nb, no, rfl, nlt, e0, e1⟩ := (HL.out.below HB.out).tx hxx
      have HEQ : Hid ((S.take (i + 1)).map Tx.n = (S.take i).map Tx.n ++ [x.n]) := (show _ = _ by
        obtain ⟨h1, rfl⟩ := List.getElem?_eq_some_iff.1 hxx
        rw [List.take_succ_eq_append_getElem h1, List.map_append]; rfl)
      have HLN : Hid (((S.take i).map Tx.n).length ≤ 1000000) := (show _ ≤ _ by rw [List.length_map, List.length_take]; omega)
      obtain ⟨xn, xa, xc, xr⟩ := x
      unfold Tx.v at e1
      simp only at e0 e1 HEQ
      generalize xr.length = xl at e1
      have B2 := hide (HB.out.trans ((below_box2 wr (.cells #[.int .u64 (xn : Int), .slice xa xl xc] 69) (.cells #[.int .u64 (xn : Int)] 32)).mono HB.out.size))
      have HBS : Hid (w.heap.size ≤ ((wr.alloc (.cells #[.int .u64 (xn : Int), .slice xa xl xc] 69)).alloc (.cells #[.int .u64 (xn : Int)] 32)).heap.size) := B2.out.size
      have HNW := hide (newU (wr.alloc (.cells #[.int .u64 (xn : Int), .slice xa xl xc] 69)) xn)
      clear hxx
      go_wp2_with (first | (at_builtin; refine app_L Try.infoU Try.underlying47 rfl (by decide) (by decide) u64cs_len u64cs_one rfl _ _ rfl w.heap.size _ _ rfl ((HO.out.alloc _).alloc _) _ _ xn rfl (by simpa using HNW.out) HLN.out HBS.out ?_; intro v4 w4 h4 g4 k4; have H4 := hide h4; have B4 := hide (B2.out.grown g4 HBS.out (fun g e => HO.out.at g e)); clear h4 g4 k4) | fail)
      go_roundg go
      case rel => exact ⟨i + 1, by go_num, by omega, by omega, (show OwnL _ _ _ _ _ _ _ by rw [HEQ.out]; exact H4.out), B4⟩
      case measure => omega
    · obtain rfl : i = S.length := by omega
      have bt : ¬ ((S.length : Nat) : Int) < (S.length : Int) := by omega
      go_wp2_with fail
      go_ret
      refine ⟨_, rfl, ?_, HB.out⟩
      have := HO.out
      rw [List.take_of_length_le (Nat.le_refl _)] at this
      exact this

end Go.Proofs.Yteafnohponbbeaa
