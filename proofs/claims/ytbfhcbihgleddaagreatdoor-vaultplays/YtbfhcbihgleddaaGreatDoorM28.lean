/-
  Texts of the vault, in build order: VFiles, VExpire, VNewest, VPutL, VPutP.
-/
import Derived.Test.YtbfhcbihgleddaaGreatDoorM26
import Derived.Test.YtbfhcbihgleddaaGreatDoorM27
/-
  A snapshot's files.
-/
namespace Go.Proofs.YtbfhcbihgleddaaGreatDoor
open Go.RowKit

/-- append of a row of strings onto an own one. -/
theorem run_appS {w : World} (ty : TypeId) {base : Nat} {v vx : Value} {ss ys : List ByteArray} (hown : OwnS base w v ss) (hx : SSeg w.heap.size w vx ys) (hl : ss.length + ys.length ≤ 1000000) (hbase : base ≤ w.heap.size) :
    ∃ v' w', (Builtin.append_ #[69, 69] ty #[v, vx]).run Tryz.prog w = .ok v' w' ∧ OwnS base w' v' (ss ++ ys) ∧ w.grownBy w' v.ownBlock ∧ ∀ g, v'.ownBlock = some g → v.ownBlock = some g ∨ w.heap.size ≤ g := by
  obtain ⟨i0, hi, hz0, hz1, hz2⟩ := info_parts Tryz.info9
  obtain ⟨ao, cap, rfl, h1, h2⟩ := hx
  cases ao with
  | none =>
    have hy : ys = [] := by
      rcases h2 with h2 | ⟨b, off, h3, _⟩
      · exact h2
      · cases h3
    subst hy
    exact ⟨v, w, run_append_none_any base 69 ty 9 i0 1 Tryz.underlying69 hi v ss.length _ hown cap, by rw [List.append_nil]; exact hown, grownBy_refl _ _, fun g e => .inl e⟩
  | some ad =>
    have hc : ∀ (j : Nat) (u : Value), (ys.map Value.string)[j]? = some u → w.cell? (ad.add j) = some u := by
      intro j u hu
      rw [List.getElem?_map] at hu
      obtain ⟨s, hs, rfl⟩ := Option.map_eq_some_iff.1 hu
      rcases h2 with rfl | ⟨b, off, h3, _, h4⟩
      · simp at hs
      · cases h3
        rw [add_plain2]; exact h4 j s hs
    obtain ⟨v', w', r1, r2, r3, _, r5⟩ := run_append_own_at (P := Tryz.prog) w base 69 ty 9 i0 (.string ByteArray.empty) 1 16 Tryz.underlying69 hi hz0 hz1 hz2 rfl (by decide) v ss.length (ss.map Value.string) hown ad ys.length cap (ys.map Value.string) (by simp) hc (fun u hu => by simp only [List.mem_map] at hu; obtain ⟨s, _, rfl⟩ := hu; rfl) (by unfold maxLen; omega) (by omega) hbase
    refine ⟨v', w', r1, ?_, r3, fun g e => ?_⟩
    · show w'.ownsRow base 9 1 v' (ss ++ ys).length ((ss ++ ys).map Value.string)
      rw [List.length_append, List.map_append]; exact r2
    · rcases r5 with r5 | r5
      · exact .inl (by rw [← r5]; exact e)
      · rw [r5] at e; exact .inr (by have := Option.some.inj e; omega)
theorem app_S {w : World} {ops : Array Oper} {rest : List Oper} {o : Oper} {a : Act} {Q : Exit → Act → World → Prop} (hgd : o.guard = none) (s x : Operand)
    (ho : o.op = .call { callee := .builtin .append, args := #[s, x], argTypes := #[69, 69] }) (base : Nat) (v vx : Value) (ss ys : List ByteArray) (hs : a.eval s = v) (hown : OwnS base w v ss) (hx : a.eval x = vx) (hseg : SSeg w.heap.size w vx ys) (hl : ss.length + ys.length ≤ 1000000) (hbase : base ≤ w.heap.size)
    (h : ∀ v' w', OwnS base w' v' (ss ++ ys) → w.grownBy w' v.ownBlock → (∀ g, v'.ownBlock = some g → v.ownBlock = some g ∨ w.heap.size ≤ g) → wpList Tryz.prog ops Q rest (a.put o.dst v') w') : wpList Tryz.prog ops Q (o :: rest) a w := by
  refine wpList_plain hgd fun K hK => ?_
  obtain ⟨v', w', hr, h2, h3, h4⟩ := run_appS o.type hown hseg hl hbase
  unfold Oper.wp execOp
  simp only [ho, resolve, invoke, builtin, Sem.run_bind, Sem.run_pure, Result.andThen_ok, List.map_toArray, List.map_cons, List.map_nil, hs, hx, hr]
  exact hK _ _ (h v' w' h2 h3 h4)
theorem step_S {w : World} {ops : Array Oper} {o : Oper} {a : Act} {K : Act → World → Prop} {Q : Exit → Act → World → Prop} {E : Prop} (hgd : o.guard = none) (s x : Operand)
    (ho : o.op = .call { callee := .builtin .append, args := #[s, x], argTypes := #[69, 69] }) (base : Nat) (v vx : Value) (ss ys : List ByteArray) (hs : a.eval s = v) (hown : OwnS base w v ss) (hx : a.eval x = vx) (hseg : SSeg w.heap.size w vx ys) (hl : ss.length + ys.length ≤ 1000000) (hbase : base ≤ w.heap.size)
    (h : ∀ v' w', OwnS base w' v' (ss ++ ys) → w.grownBy w' v.ownBlock → (∀ g, v'.ownBlock = some g → v.ownBlock = some g ∨ w.heap.size ≤ g) → K (a.put o.dst v') w') :
    if Region.wanted o (yielded ops a.tmps) = true then Oper.wp Tryz.prog o a w K Q else E := by
  have hw : Region.wanted o (yielded ops a.tmps) = true := by simp [Region.wanted, hgd]
  rw [if_pos hw]
  obtain ⟨v', w', hr, h2, h3, h4⟩ := run_appS o.type hown hseg hl hbase
  unfold Oper.wp execOp
  simp only [ho, resolve, invoke, builtin, Sem.run_bind, Sem.run_pure, Result.andThen_ok, List.map_toArray, List.map_cons, List.map_nil, hs, hx, hr]
  exact h v' w' h2 h3 h4
theorem own_one {base B : Nat} {w : World} {s : ByteArray} (h : BoxT 9 w B #[.string s]) (hb : base ≤ B) : OwnS base w (.slice (some ⟨B, 0, none⟩) 1 1) [s] :=
  ⟨rfl, .inr ⟨B, 1, _, rfl, hb, h, Nat.le_refl _, by unfold maxLen; omega, rfl, rfl⟩⟩

set_option maxHeartbeats 2000000 in
set_option maxRecDepth 100000 in
theorem files_any {base : Nat} (x : SpV) (w : World) (ho : OwnS base w x.vp x.parts) (hl : x.parts.length ≤ 100000) (hn : x.n < 18446744073709551616) :
    Calls Tryz.prog 61 #[.agg #[.int .u64 x.n, .int .u64 x.ep, x.vp, x.vc]] w fun e w' => ∃ v', e = .returned v' ∧ OwnS w.heap.size w' v' (wholeN x.n :: x.parts) ∧ Below w.heap.size w w' := by
  obtain ⟨xn, xep, xp, xap, xcp, xck, xac, xcc⟩ := x
  simp only [SpV.vp, SpV.vc] at *
  have ba : Below w.heap.size w (w.alloc (.cells #[.int .u64 xn, .int .u64 xep, .slice xap xp.length xcp, .slice xac xck.length xcc] 84)) := (Below.refl _ _).alloc (Nat.le_refl _) _
  have hbx := BoxT.new 84 w #[.int .u64 xn, .int .u64 xep, .slice xap xp.length xcp, .slice xac xck.length xcc]
  have hwn := wholeName_any xn hn
  have BA := hide ba
  have BX := hide hbx
  have HO := hide (ho.below ba)
  clear ba hbx ho
  go_enter Tryz.func61, Tryz.ntmps61
  go_wp2_with fail
  generalize (w.alloc (.cells #[.int .u64 xn, .int .u64 xep, .slice xap xp.length xcp, .slice xac xck.length xcc] 84)) = wa at *
  obtain ⟨c0, c1, c2, c3⟩ := BX.out.cells4
  have BXd : Hid (BoxT 84 wa.drew w.heap.size #[.int .u64 xn, .int .u64 xep, .slice xap xp.length xcp, .slice xac xck.length xcc]) := BX
  have hbd : Below w.heap.size w wa.drew := BA.out.trans ((Below.refl _ _).drew)
  have HOd : Hid (OwnS base wa.drew (.slice xap xp.length xcp) xp) := HO
  have hwn1 := hwn wa.drew
  have HBD := hide hbd
  have hlt := BX.out.lt
  clear hwn hbd
  go_region_held3 (fun w' => w'.cell? ⟨w.heap.size, 0, none⟩ = some (.int .u64 xn) ∧ w'.cell? ⟨w.heap.size, 2, none⟩ = some (.slice xap xp.length xcp)) (first | go_keep | exact ⟨c0, c2⟩ | exact ⟨y0, y2⟩ | exact ⟨z0, z2⟩)
    (first | (go_at_call 71; refine hwn1.mono ?_; rintro e w1 ⟨rfl, b1⟩; have BX1 := hide (BXd.out.kept (base := 0) (Kept.of_below b1) (by decide)); have HO1 := hide (HOd.out.below b1); have HB1 := hide (HBD.out.trans (b1.mono HBD.out.size)); have hlt1 := BX1.out.lt; obtain ⟨y0, y1, y2, y3⟩ := BX1.out.cells4; clear b1)
           | (have ON : Hid (OwnS w.heap.size (w1.alloc (.cells #[.string (wholeN xn)] 9)) (.slice (some ⟨w1.heap.size, 0, none⟩) 1 1) [wholeN xn]) := own_one (BoxT.new 9 w1 _) (Nat.le_of_lt hlt1); have HO2 := hide (HO1.out.alloc (.cells #[.string (wholeN xn)] 9)); refine step_S rfl _ _ rfl w.heap.size (.slice (some ⟨w1.heap.size, 0, none⟩) 1 1) (.slice xap xp.length xcp) [wholeN xn] xp rfl ON.out rfl (HO2.out.sseg (by omega) (Nat.le_refl _)) (by simp; omega) (by simp; omega) ?_; intro v3 w3 o3 g3 _; have BX3 := hide ((BX1.out.alloc (.cells #[.string (wholeN xn)] 9)).rowed (by decide) ON.out g3); obtain ⟨z0, z1, z2, z3⟩ := BX3.out.cells4))
  all_goals
    have HF : Hid (OwnS w.heap.size w3 v3 (wholeN xn :: xp) ∧ Below w.heap.size w w3) := by
      have hb := HB1.out.alloc HB1.out.size (.cells #[.string (wholeN xn)] 9)
      exact ⟨o3, ⟨g3.os.trans hb.os, g3.tape.trans hb.tape, g3.output.trans hb.output, Nat.le_trans hb.size g3.size, fun j hj => (g3.block j (Nat.lt_of_lt_of_le hj hb.size) (fun e => by simp [Value.ownBlock] at e; omega)).trans (hb.block j hj)⟩⟩
    obtain ⟨a3, c3', hv3⟩ := o3.shape
    subst hv3
    clear o3 g3
    go_wp2
    go_ret
    exact ⟨_, rfl, HF.out.1, HF.out.2⟩
end Go.Proofs.YtbfhcbihgleddaaGreatDoor
/-
  The vault's expire.
-/
namespace Go.Proofs.YtbfhcbihgleddaaGreatDoor
open Go.RowKit

/-- What turns at a call that takes snapshots out of a vault: its box, and the row of the snapshots. -/
structure XT (V : Nat) (vt vt' : Value) (w w' : World) : Prop where
  os : w'.os = w.os
  tape : w'.tape = w.tape
  output : w'.output = w.output
  size : w.heap.size ≤ w'.heap.size
  block : ∀ i, i < w.heap.size → i ≠ V → vt.ownBlock ≠ some i → w'.heap[i]? = w.heap[i]?
  own : ∀ g, vt'.ownBlock = some g → vt.ownBlock = some g ∨ w.heap.size ≤ g
theorem XT.refl (V : Nat) (vt : Value) (w : World) : XT V vt vt w w := ⟨rfl, rfl, rfl, Nat.le_refl _, fun _ _ _ _ => rfl, fun _ e => .inl e⟩
theorem XT.trans {V : Nat} {va vb vc : Value} {w1 w2 w3 : World} (h : XT V va vb w1 w2) (g : XT V vb vc w2 w3) : XT V va vc w1 w3 :=
  ⟨g.os.trans h.os, g.tape.trans h.tape, g.output.trans h.output, Nat.le_trans h.size g.size,
   fun i hi h3 h4 => (g.block i (Nat.lt_of_lt_of_le hi h.size) h3 (fun e => by rcases h.own i e with e | e; exact h4 e; omega)).trans (h.block i hi h3 h4),
   fun x e => by
     rcases g.own x e with e | e
     · exact h.own x e
     · exact .inr (Nat.le_trans h.size e)⟩
theorem XT.below {V : Nat} {vt : Value} {w w' : World} (hb : Below w.heap.size w w') : XT V vt vt w w' := ⟨hb.os, hb.tape, hb.output, hb.size, fun i hi _ _ => hb.block i hi, fun _ e => .inl e⟩
/-- The snapshots are another row, or the same one with other things. -/
theorem VAt.setThere {w0 w w' : World} {V k b n : Nat} {p : Pd} {keep : Int} {vt vt' vw : Value} {th th' : List SpV} {ws : List ByteArray} (h : VAt w0 w V k b n p keep vt vw th ws) (hr : Row 84 4 SpV.cs w0.heap.size w' vt' th') (hg : w.grownBy w' vt.ownBlock) (hown : ∀ g, vt'.ownBlock = some g → vt.ownBlock = some g ∨ w.heap.size ≤ g)
    (hth : ∀ x ∈ th', x.ok w0.heap.size w ∧ ∀ g, vw.ownBlock = some g → x.vp.ownBlock ≠ some g) :
    VAt w0 (w'.setCell ⟨V, 2, none⟩ vt') V k b n p keep vt' vw th' ws ∧ XT V vt vt' w (w'.setCell ⟨V, 2, none⟩ vt') := by
  have hw : ∀ {t sz base m : Nat} {v : Value} {xs : List Value}, t ≠ 84 → w.ownsRow base t sz v m xs → w'.ownsRow base t sz v m xs := fun ht hh => row_back hh fun g e => by
    obtain ⟨cur, hc⟩ := row_has hh g e
    refine hg.block g (Array.getElem?_eq_some_iff.1 hc).1 fun e2 => ?_
    obtain ⟨cur2, hc2⟩ := h.tr.has g e2.symm
    unfold BoxT at hc2
    rw [hc] at hc2
    simp at hc2
    exact ht hc2.2
  have hbox : BoxT 81 w' V #[.pointer (some ⟨k, 0, none⟩), .int .i64 keep, vt, vw] := by
    have hb := h.box
    unfold BoxT at hb ⊢
    rw [hg.block V (Array.getElem?_eq_some_iff.1 hb).1 fun e2 => ?_]
    · exact hb
    · obtain ⟨cur2, hc2⟩ := h.tr.has V e2.symm
      unfold BoxT at hc2
      rw [hb] at hc2; simp at hc2
  have hok : ∀ x ∈ th', x.ok w0.heap.size w' := fun x hx => ⟨hw (by decide) (hth x hx).1.p, hw (by decide) (hth x hx).1.c, fun c hc => hw (by decide) ((hth x hx).1.ks c hc)⟩
  refine ⟨⟨(h.st.rowed h.tr (by decide) hg).boxed hbox (by decide) h.lV _ _, hbox.set 2 vt', hr.setBox hbox (by decide) _ _, (h.wr.rowed (by decide) h.tr hg).setBox hbox (by decide) _ _, fun x hx => (hok x hx).setBox hbox (by decide) (by decide) (by decide) _ _, fun x hx => (hth x hx).2, h.lV⟩, ?_⟩
  refine ⟨hg.os, hg.tape, hg.output, by have := hg.size; simpa using this, fun i hi h3 h4 => ?_, hown⟩
  rw [Below.heap_setCell w' ⟨V, 2, none⟩ vt' i h3]
  exact hg.block i hi (fun e => h4 e.symm)
theorem scs_flat (l : List ByteArray) : l.flatMap scs = l.map Value.string := by
  induction l with
  | nil => rfl
  | cons a l ih => rw [List.flatMap_cons, ih, List.map_cons]; rfl
/-- A row of strings of someone else grows. -/
theorem VAt.grow9 {w0 w w' : World} {V k b n : Nat} {p : Pd} {keep : Int} {vt vw : Value} {th : List SpV} {ws : List ByteArray} (h : VAt w0 w V k b n p keep vt vw th ws) {v : Value} {acc : List ByteArray} {base : Nat} (ho : OwnS base w v acc) (hb : w0.heap.size ≤ base) (hne : ∀ j, v.ownBlock = some j → vw.ownBlock ≠ some j ∧ ∀ x ∈ th, x.vp.ownBlock ≠ some j) (hg : w.grownBy w' v.ownBlock) : VAt w0 w' V k b n p keep vt vw th ws := by
  have hw : ∀ {t sz base m : Nat} {u : Value} {xs : List Value}, t ≠ 9 ∨ (∀ j, v.ownBlock = some j → u.ownBlock ≠ some j) → w.ownsRow base t sz u m xs → w'.ownsRow base t sz u m xs := fun ht hh => row_back hh fun g e => by
    obtain ⟨cur, hc⟩ := row_has hh g e
    refine hg.block g (Array.getElem?_eq_some_iff.1 hc).1 fun e2 => ?_
    rcases ht with ht | ht
    · obtain ⟨cur2, hc2⟩ := row_has ho g e2.symm
      rw [hc] at hc2
      simp at hc2
      exact ht hc2.2
    · exact ht g e2.symm e
  have hbx : BoxT 81 w' V #[.pointer (some ⟨k, 0, none⟩), .int .i64 keep, vt, vw] := h.box.rowed (by decide) ho hg
  have hst : St w0 w' k b n p := h.st.rowed (α := ByteArray) (t := 9) (sz := 1) (cs := scs) (v := v) (xs := acc) (Row.of_own (show OwnL 9 1 scs w0.heap.size w v acc from by
    have h1 := ho.mono hb
    unfold OwnS at h1
    unfold OwnL
    rw [scs_flat]; exact h1)) (by decide) hg
  refine ⟨hst, hbx, h.tr.back fun g e => ?_, h.wr.back fun g e => ?_, fun x hx => ⟨hw (.inr fun j e => (hne j e).2 x hx) (h.oks x hx).p, hw (.inl (by decide)) (h.oks x hx).c, fun c hc => hw (.inl (by decide)) ((h.oks x hx).ks c hc)⟩, h.far, h.lV⟩
  · obtain ⟨cur, hc⟩ := h.tr.has g e
    refine hg.block g hc.lt fun e2 => ?_
    obtain ⟨cur2, hc2⟩ := row_has ho g e2.symm
    unfold BoxT at hc
    rw [hc] at hc2; simp at hc2
  · obtain ⟨cur, hc⟩ := h.wr.has g e
    exact hg.block g hc.lt fun e2 => (hne g e2.symm).1 e
/-- The cells ahead of a row are written over. -/
theorem Row.over {α : Type} {t sz : Nat} {cs : α → List Value} {base : Nat} {w : World} {g o n cap off : Nat} {xs : List α} (h : Row t sz cs base w (.slice (some ⟨g, o, none⟩) n cap) xs) (vs : List Value) (ho : xs = [] ∨ off + vs.length ≤ o) : Row t sz cs base (w.setCells g off vs) (.slice (some ⟨g, o, none⟩) n cap) xs := by
  rcases h with ⟨e, _⟩ | ⟨g', o', cap', cur, e, h2, h3, h4, h5, h6, h7⟩
  · cases e
  · cases e
    refine .inr ⟨g, o, cap, setL cur off vs, rfl, h2, h3.setCells vs, h4, h5, by rw [setL_size]; exact h6, fun j u hu => ?_⟩
    rcases ho with rfl | ho
    · simp at hu
    · rw [setL_out _ _ _ _ (.inr (by omega))]; exact h7 j u hu
theorem row_grown {t sz base m t2 g : Nat} {w w' : World} {v : Value} {xs : List Value} {cur : Array Value} (hr : w.ownsRow base t sz v m xs) (hb : BoxT t2 w g cur) (ht : t2 ≠ t) (hg : w.grownBy w' (some g)) : w'.ownsRow base t sz v m xs :=
  row_back hr fun j e => by
    obtain ⟨c2, hc⟩ := row_has hr j e
    refine hg.block j (Array.getElem?_eq_some_iff.1 hc).1 fun e2 => ?_
    obtain rfl : j = g := Option.some.inj e2
    unfold BoxT at hb
    rw [hb] at hc; simp at hc; exact ht hc.2
theorem box_grown {t t2 g j : Nat} {w w' : World} {ca cur : Array Value} (hr : BoxT t w j ca) (hb : BoxT t2 w g cur) (ht : t2 ≠ t) (hg : w.grownBy w' (some g)) : BoxT t w' j ca := by
  unfold BoxT at *
  rw [hg.block j (Array.getElem?_eq_some_iff.1 hr).1 fun e2 => ?_]
  · exact hr
  · obtain rfl : j = g := Option.some.inj e2
    rw [hb] at hr; simp at hr; exact ht hr.2
/-- The files of snapshots. -/
def fls (l : List SpV) : List ByteArray := l.flatMap fun x => wholeN x.n :: x.parts
/-- In the midst of expire. -/
structure EI (w0 w wr : World) (V k b n : Nat) (p : Pd) (keep : Int) (vt vw : Value) (ws : List ByteArray) (v3 : Value) (acc : List ByteArray) (vt1 : Value) (th1 : List SpV) : Prop where
  v : VAt w0 wr V k b n p keep vt1 vw th1 ws
  t : XT V vt vt1 w wr
  o : OwnS w.heap.size wr v3 acc
  ne : ∀ j, v3.ownBlock = some j → vw.ownBlock ≠ some j ∧ ∀ x ∈ th1, x.vp.ownBlock ≠ some j
def tlen (w : World) (V : Nat) : Nat := match w.cell? ⟨V, 2, none⟩ with | some (.slice _ n _) => n | _ => 0
theorem tlen_of {w : World} {V n c : Nat} {a : Option Addr} (h : w.cell? ⟨V, 2, none⟩ = some (.slice a n c)) : tlen w V = n := by unfold tlen; rw [h]

set_option maxHeartbeats 4000000 in
set_option maxRecDepth 100000 in
theorem expire_any {w0 w : World} {V k b n : Nat} {p : Pd} {kp : Nat} {vt vw : Value} {th : List SpV} {ws : List ByteArray} (h : VAt w0 w V k b n p kp vt vw th ws) (hkp : kp ≤ 1000000) (hth : th.length ≤ 1000) (hx : ∀ x ∈ th, x.n < 18446744073709551616 ∧ x.parts.length ≤ 900) :
    Calls Tryz.prog 41 #[.pointer (some ⟨V, 0, none⟩)] w fun e w' => ∃ v' vt', e = .returned v' ∧ EI w0 w w' V k b n p kp vt vw ws v' (fls (th.take (th.length - kp))) vt' (th.drop (th.length - kp)) := by
  have H0 : Hid (EI w0 w w V k b n p kp vt vw ws (.slice none 0 0) (fls (th.take 0)) vt (th.drop 0)) := ⟨h, XT.refl _ _ _, OwnS.nil _ _, fun j e => by cases e⟩
  have HX := hide hx
  have hw0w := h.st.since.size
  clear h hx
  go_enter Tryz.func41, Tryz.ntmps41
  go_wp2
  go_loopw [3] (fun v3 wr => ∃ (d : Nat) (vt1 : Value), d ≤ th.length - kp ∧ Hid (EI w0 w wr V k b n p kp vt vw ws v3 (fls (th.take d)) vt1 (th.drop d))) (fun _ wr => tlen wr V)
  case atStart => exact ⟨0, vt, Nat.zero_le _, H0⟩
  case round =>
    obtain ⟨d, vt1, hd, HI⟩ := hrel
    clear H0
    obtain ⟨c0, c1, c2, c3⟩ := HI.out.v.box.cells4
    obtain ⟨at1, ct1, hvt1⟩ := HI.out.v.tr.shape
    subst hvt1
    obtain ⟨a3, cp3, hv3⟩ := HI.out.o.shape
    subst hv3
    have HD := hide (HI.out.v.below ((Below.refl _ _).drew))
    obtain ⟨d0, d1, d2, d3⟩ := HD.out.box.cells4
    rw [List.length_drop] at c2 d2
    have C2 := hide c2
    by_cases hlt : d < th.length - kp
    · have hgt : (kp : Int) < ((th.length - d : Nat) : Int) := by omega
      go_wp2_with fail
      go_region
      have hdl : d < th.length := by omega
      obtain ⟨x, hxd⟩ : ∃ x, th[d]? = some x := ⟨_, List.getElem?_eq_getElem hdl⟩
      have hdrop : th.drop d = x :: th.drop (d + 1) := by
        rw [List.drop_eq_getElem_cons hdl, show th[d] = x from by rw [List.getElem?_eq_getElem hdl] at hxd; exact Option.some.inj hxd]
      have htake : fls (th.take (d + 1)) = fls (th.take d) ++ (wholeN x.n :: x.parts) := by
        unfold fls
        rw [List.take_add_one, hxd, List.flatMap_append]; simp
      obtain ⟨hxn, hxp⟩ := HX.out x (List.mem_of_getElem? hxd)
      have hxm : x ∈ th.drop d := by rw [hdrop]; simp
      have hfl := files_any x wr.drew (HD.out.oks x hxm).p (by omega) hxn
      have htl : (fls (th.take d)).length ≤ 901 * d := by
        have : ∀ l : List SpV, (∀ y ∈ l, y.parts.length ≤ 900) → (fls l).length ≤ 901 * l.length := by
          intro l
          induction l with
          | nil => intro _; simp [fls]
          | cons y l ih =>
            intro hy
            have h1 := ih fun z hz => hy z (by simp [hz])
            have h2 := hy y (by simp)
            simp only [fls, List.flatMap_cons, List.length_append, List.length_cons] at *
            omega
        have h3 := this (th.take d) fun y hy => (HX.out y (List.mem_of_mem_take hy)).2
        rw [List.length_take] at h3
        have h4 : min d th.length = d := by omega
        rw [h4] at h3; exact h3
      rw [hdrop] at HI HD
      have hrow := HD.out.tr
      rw [show th.length - d = (th.drop (d + 1)).length + 1 from by rw [List.length_drop]; omega] at *
      generalize hth2 : th.drop (d + 1) = th2 at *
      generalize hacc : fls (th.take d) = acc at *
      have HT2 := hide hth2
      have HTK := hide htake
      obtain ⟨xn, xep, xp, xap, xcp, xck, xac, xcc⟩ := x
      simp only [SpV.vp, SpV.vc] at hfl hxn hxp
      obtain ⟨g, off, cap, er, hrd⟩ := hrow.read (i := 0) (fun _ => rfl) rfl
      cases er
      have r0 := hrd 0 _ rfl
      have r1 := hrd 1 _ rfl
      have r2 := hrd 2 _ rfl
      have r3 := hrd 3 _ rfl
      simp only [SpV.vp, SpV.vc, Nat.zero_mul, Nat.zero_add, Nat.add_zero] at r0 r1 r2 r3
      have hal : acc.length ≤ 901000 := by
        have : d ≤ 1000 := by omega
        omega
      have hsz0 := HI.out.v.st.since.size
      have HO3d := hide (HI.out.o.below ((Below.refl _ _).drew))
      have HNE := hide HI.out.ne
      have HXT := hide (XT.trans HI.out.t (XT.below (V := V) ((Below.refl wr.heap.size wr).drew)))
      have HLT := hide hlt
      clear hxd hdrop htake hxm htl hrow hrd hth2 hacc HI c0 c1 c2 c3 hlt hgt
      go_wp2_with fail
      refine hfl.mono ?_
      rintro e w2 ⟨v2, rfl, o2, b2⟩
      have HV2 := hide (HD.out.below b2)
      have HO3 := hide (HO3d.out.below b2)
      have HXT2 := hide (XT.trans HXT.out (XT.below (V := V) b2))
      have hsz2 : w.heap.size ≤ w2.heap.size := HXT2.out.size
      have hsg2 := o2.sseg (by simp; omega) (Nat.le_refl _)
      obtain ⟨a2, cp2, hv2⟩ := o2.shape
      subst hv2
      clear hfl o2 b2 HD HO3d HXT d0 d1 d2 d3 r0 r1 r2 r3
      go_wp2_with (first | (at_builtin; refine app_S rfl _ _ rfl w.heap.size (.slice a3 acc.length cp3) _ acc (wholeN xn :: xp) rfl HO3.out rfl hsg2 (by simp; omega) hsz2 ?_) | fail)
      intro v4 w4 o4 g4 at4
      have HV4 := hide (HV2.out.grow9 HO3.out hw0w HNE.out g4)
      have HO4 := hide o4
      have HN4 : Hid (∀ j, v4.ownBlock = some j → vw.ownBlock ≠ some j ∧ ∀ x ∈ (⟨xn, xep, xp, xap, xcp, xck, xac, xcc⟩ : SpV) :: th2, x.vp.ownBlock ≠ some j) := fun j ej => by
        rcases at4 j ej with ej | ej
        · exact HNE.out j ej
        · refine ⟨fun e => ?_, fun x hx e => ?_⟩
          · obtain ⟨cur, hc⟩ := HV2.out.wr.has j e
            have := hc.lt; omega
          · obtain ⟨cur, hc⟩ := row_has (HV2.out.oks x hx).p j e
            have := (Array.getElem?_eq_some_iff.1 hc).1; omega
      have HXT4 : Hid (XT V vt (.slice (some ⟨g, off, none⟩) (th2.length + 1) ct1) w w4) := by
        refine ⟨g4.os.trans HXT2.out.os, g4.tape.trans HXT2.out.tape, g4.output.trans HXT2.out.output, Nat.le_trans HXT2.out.size g4.size, fun i hi h3 h4 => (g4.block i (Nat.lt_of_lt_of_le hi HXT2.out.size) (fun e => ?_)).trans (HXT2.out.block i hi h3 h4), HXT2.out.own⟩
        have := (World.ownsRow.lt HO3.out i e.symm).1
        omega
      obtain ⟨a4, cp4, hv4⟩ := o4.shape
      subst hv4
      obtain ⟨q0, q1, q2, q3⟩ := HV4.out.box.cells4
      have qf := HV4.out.box.free
      obtain ⟨cur, hcur⟩ := HV4.out.tr.has g rfl
      have gf := hcur.free
      obtain ⟨g', off', cap', er, hrd⟩ := HV4.out.tr.read (i := 0) (fun _ => rfl) rfl
      cases er
      have r0 := hrd 0 _ rfl
      have r1 := hrd 1 _ rfl
      have r2 := hrd 2 _ rfl
      have r3 := hrd 3 _ rfl
      simp only [SpV.vp, SpV.vc, Nat.zero_mul, Nat.zero_add, Nat.add_zero, List.length_cons] at r0 r1 r2 r3 q2
      have hVg : V ≠ g := by
        rintro rfl
        have h1 := HV4.out.box
        unfold BoxT at h1 hcur
        rw [h1] at hcur; simp at hcur
      obtain ⟨g2, off2, ea, -, hc1, hA, hB⟩ := HV4.out.tr.tail (fun _ => rfl)
      cases ea
      have HCU := hide hcur
      clear o4 g4 at4 HV2 HO3 HXT2 hsg2 hrd hcur HNE
      by_cases hct : ct1 = 1
      · subst hct
        obtain ⟨hB1, hB2⟩ := hB rfl
        subst hB2
        have hB3 := hB1.over (off := off) [.int .u64 0, .int .u64 0, .slice none 0 0, .slice none 0 0] (.inl rfl)
        have HV5 := hide (HV4.out.setThere hB3 (grown_setCells g _ w4 off) (fun j e => .inl e) (fun x hx => by cases hx))
        have HN : Hid (EI w0 w ((w4.setCells g off [.int .u64 0, .int .u64 0, .slice none 0 0, .slice none 0 0]).setCell ⟨V, 2, none⟩ (.slice (some ⟨g, off, none⟩) 0 0)) V k b n p kp vt vw ws (.slice a4 (acc ++ wholeN xn :: xp).length cp4) (fls (th.take (d + 1))) (.slice (some ⟨g, off, none⟩) 0 0) (th.drop (d + 1))) := by
          rw [HTK.out, HT2.out]
          have hgs := grown_setCells g [.int .u64 0, .int .u64 0, .slice none 0 0, .slice none 0 0] w4 off
          exact ⟨HV5.out.1, XT.trans HXT4.out HV5.out.2, row_setBox (row_grown HO4.out HCU.out (by decide) hgs) (box_grown HV4.out.box HCU.out (by decide) hgs) (by decide) _ _, fun j ej => ⟨(HN4.out j ej).1, fun x hx => by cases hx⟩⟩
        clear hA hB hB1 hB3
        go_wp2
        go_roundw
        case rel => exact ⟨d + 1, _, by have := HLT.out; omega, HN⟩
        case measure =>
          have hm1 := tlen_of HN.out.v.box.cells4.2.2.1
          have hm2 := tlen_of C2.out
          refine Nat.lt_of_le_of_lt (Nat.le_of_eq hm1) ?_
          rw [hm2]; omega
      · have hA1 := (hA hct).over (off := off) [.int .u64 0, .int .u64 0, .slice none 0 0, .slice none 0 0] (.inr (Nat.le_refl _))
        have HV5 := hide (HV4.out.setThere hA1 (grown_setCells g _ w4 off) (fun j e => .inl e) (fun x hx => ⟨HV4.out.oks x (by simp [hx]), HV4.out.far x (by simp [hx])⟩))
        have HN : Hid (EI w0 w ((w4.setCells g off [.int .u64 0, .int .u64 0, .slice none 0 0, .slice none 0 0]).setCell ⟨V, 2, none⟩ (.slice (some ⟨g, off + 4, none⟩) th2.length (ct1 - 1))) V k b n p kp vt vw ws (.slice a4 (acc ++ wholeN xn :: xp).length cp4) (fls (th.take (d + 1))) (.slice (some ⟨g, off + 4, none⟩) th2.length (ct1 - 1)) (th.drop (d + 1))) := by
          rw [HTK.out, HT2.out]
          have hgs := grown_setCells g [.int .u64 0, .int .u64 0, .slice none 0 0, .slice none 0 0] w4 off
          exact ⟨HV5.out.1, XT.trans HXT4.out HV5.out.2, row_setBox (row_grown HO4.out HCU.out (by decide) hgs) (box_grown HV4.out.box HCU.out (by decide) hgs) (by decide) _ _, fun j ej => ⟨(HN4.out j ej).1, fun x hx => (HN4.out j ej).2 x (by simp [hx])⟩⟩
        clear hA hB hA1
        go_wp2
        go_roundw
        case rel => exact ⟨d + 1, _, by have := HLT.out; omega, HN⟩
        case measure =>
          have hm1 := tlen_of HN.out.v.box.cells4.2.2.1
          have hm2 := tlen_of C2.out
          refine Nat.lt_of_le_of_lt (Nat.le_of_eq hm1) ?_
          rw [hm2]; omega
    · obtain rfl : d = th.length - kp := by omega
      have hle : ¬ ((kp : Int) < ((th.length - (th.length - kp) : Nat) : Int)) := by omega
      go_wp2_with fail
      go_region
      all_goals
        go_wp2
        go_ret
        exact ⟨_, _, rfl, ⟨HD.out, XT.trans HI.out.t (XT.below ((Below.refl _ _).drew)), HI.out.o.below ((Below.refl _ _).drew), HI.out.ne⟩⟩
end Go.Proofs.YtbfhcbihgleddaaGreatDoor
/-
  The vault's Newest.
-/
namespace Go.Proofs.YtbfhcbihgleddaaGreatDoor
open Go.RowKit

/-- The greatest number, if there is one. -/
def newest (th : List SpV) : Nat := match th.getLast? with | some x => x.n | none => 0

set_option maxHeartbeats 1000000 in
set_option maxRecDepth 100000 in
theorem newest_any {w0 w : World} {V k b n : Nat} {p : Pd} {keep : Int} {vt vw : Value} {th : List SpV} {ws : List ByteArray} (h : VAt w0 w V k b n p keep vt vw th ws) (hth : th.length ≤ 1000000) :
    Calls Tryz.prog 24 #[.pointer (some ⟨V, 0, none⟩)] w fun e w' => e = .returned (.tuple #[.int .u64 (newest th), .bool (decide (0 < th.length))]) ∧ Below w.heap.size w w' := by
  obtain ⟨c0, c1, c2, c3⟩ := h.box.cells4
  obtain ⟨at1, ct1, hvt1⟩ := h.tr.shape
  subst hvt1
  by_cases h0 : th = []
  · subst h0
    clear h
    go_enter Tryz.func24, Tryz.ntmps24
    go_wp2
    go_ret2
    exact ⟨rfl, Below.refl _ _⟩
  · have hp : 0 < th.length := List.length_pos_iff.2 h0
    obtain ⟨x, hx⟩ : ∃ x, th[th.length - 1]? = some x := ⟨_, List.getElem?_eq_getElem (by omega)⟩
    have hn : newest th = x.n := by unfold newest; rw [List.getLast?_eq_getElem?, hx]
    rw [hn, decide_eq_true hp]
    obtain ⟨g, off, cap, e, hrd⟩ := h.tr.read (fun _ => rfl) hx
    cases e
    have r0 := hrd 0 _ rfl
    have r1 : w.cell? ⟨g, off + (th.length - 1) * 4, none⟩ = some (.int .u64 x.n) := by simpa using r0
    have r2 : w.drew.cell? ⟨g, off + (th.length - 1) * 4, none⟩ = some (.int .u64 x.n) := r1
    have d2 : w.drew.cell? ⟨V, 2, none⟩ = some (.slice (some ⟨g, off, none⟩) th.length ct1) := c2
    obtain ⟨m, hm⟩ : ∃ m, th.length = m + 1 := ⟨th.length - 1, by omega⟩
    rw [hm] at c2 d2 r1 r2
    have e1 : ((m + 1 : Nat) : Int) - 1 = (m : Int) := by omega
    rw [Nat.add_sub_cancel] at r1 r2
    clear h hn hrd r0 h0 hp hx
    have hm3 : m ≤ 1000000 := by omega
    clear hm hth
    go_enter Tryz.func24, Tryz.ntmps24
    go_wp2_with fail
    go_region
    all_goals
      go_wp2
      go_ret2
      exact ⟨rfl, (Below.refl _ _).drew⟩
end Go.Proofs.YtbfhcbihgleddaaGreatDoor
/-
  The vault's Put: laws for its walk.
-/
namespace Go.Proofs.YtbfhcbihgleddaaGreatDoor
open Go.RowKit

/-- append onto a row that begins anywhere. -/
theorem run_row {α : Type} {t sl sz by_ : Nat} {z : Value} {cs : α → List Value} (hinfo : (Tryz.prog.info? t).map (fun i => (i.zero, i.size, i.bytes)) = some (some z, sz, by_)) (hund : Tryz.prog.underlying sl = some (.slice t)) (hz : z.cells.size = sz) (hsz : 0 < sz) (hby : by_ ≤ 100)
    (hcs : ∀ x, (cs x).length = sz) (h1c : ∀ x, ∀ u ∈ cs x, u.oneCell' = true) {w : World} (ty base : Nat) {v : Value} {xs : List α} (hown : Row t sz cs base w v xs)
    (ad : Addr) (c : Nat) (y : α) (hnews : ∀ j u, (cs y)[j]? = some u → w.cell? (ad.add j) = some u) (hl : xs.length ≤ 1000000) (hbase : base ≤ w.heap.size) :
    ∃ v' w', (Builtin.append_ #[sl, sl] ty #[v, .slice (some ad) 1 c]).run Tryz.prog w = .ok v' w' ∧ Row t sz cs base w' v' (xs ++ [y]) ∧ w.grownBy w' v.ownBlock ∧ ∀ g, v'.ownBlock = some g → v.ownBlock = some g ∨ w.heap.size ≤ g := by
  obtain ⟨i0, hi, hz0, hz1, hz2⟩ := info_parts hinfo
  have hb2 : (xs.length + 1) * by_ ≤ 140737488355328 := by
    have : (xs.length + 1) * by_ ≤ 1000001 * 100 := Nat.mul_le_mul (by omega) hby
    omega
  have grown : ∀ v' w', w'.ownsRow w.heap.size t sz v' (xs.length + 1) (xs.flatMap cs ++ cs y) → Row t sz cs base w' v' (xs ++ [y]) ∧ ∀ g, v'.ownBlock = some g → v.ownBlock = some g ∨ w.heap.size ≤ g := by
    intro v' w' h1
    have h2 : OwnL t sz cs w.heap.size w' v' (xs ++ [y]) := by
      show w'.ownsRow _ t sz v' (xs ++ [y]).length ((xs ++ [y]).flatMap cs)
      rw [List.length_append, List.flatMap_append]; simpa using h1
    exact ⟨Row.of_own (h2.mono hbase), fun g e => .inr (h2.at g e)⟩
  rcases id hown with ⟨rfl, rfl⟩ | ⟨g, off, cap, cur, rfl, g2, g3, g4, g5, g6, g7⟩
  · obtain ⟨v', w', r1, r2, r3, _, _⟩ := run_append_own_at (P := Tryz.prog) w w.heap.size sl ty t i0 z sz by_ hund hi hz0 hz1 hz2 hz hsz (.slice none 0 0) 0 [] (World.ownsRow_nil _ _ _ _) ad 1 c (cs y) (by rw [hcs]; omega) hnews (h1c y) (by unfold maxLen; omega) (by simpa using hb2) (Nat.le_refl _)
    obtain ⟨k1, k2⟩ := grown v' w' (by simpa using r2)
    exact ⟨v', w', r1, k1, r3, k2⟩
  · by_cases hr : xs.length + 1 ≤ cap
    · have hfit : off + xs.length * sz + (cs y).length ≤ cur.size := by
        have : (xs.length + 1) * sz ≤ cap * sz := Nat.mul_le_mul_right _ hr
        rw [Nat.succ_mul] at this; rw [hcs]; omega
      have hrun := run_append_room_cells (P := Tryz.prog) w sl ty t i0 hund hi g off xs.length cap ad 1 c (cs y) (by rw [hcs, hz1]; omega) hnews (h1c y) hr
        (fun j hj => by rw [hz1, g3.cellAt, Array.getElem?_eq_getElem (show off + xs.length * sz + j < cur.size by omega)]; rfl) (fun j _ => g3.free _)
      rw [hz1] at hrun
      refine ⟨_, _, hrun, ?_, grown_setCells g (cs y) w _, fun g' e => .inl e⟩
      refine .inr ⟨g, off, cap, setL cur (off + xs.length * sz) (cs y), by simp, g2, g3.setCells (cs y), by simpa using hr, g5, by rw [setL_size]; exact g6, fun j u hu => ?_⟩
      rw [List.flatMap_append] at hu
      simp only [List.flatMap_cons, List.flatMap_nil, List.append_nil] at hu
      by_cases hj : j < xs.length * sz
      · rw [List.getElem?_append_left (by rw [flat_size hcs]; exact hj)] at hu
        rw [setL_out _ _ _ _ (.inl (by omega))]
        exact g7 j u hu
      · rw [List.getElem?_append_right (by rw [flat_size hcs]; omega), flat_size hcs] at hu
        rw [show off + j = off + xs.length * sz + (j - xs.length * sz) by omega]
        exact setL_in _ _ _ _ _ hfit hu
    · obtain ⟨v', w', r1, r2, r3⟩ := run_append_arg_grows (P := Tryz.prog) w sl ty t i0 z sz by_ hund hi hz0 hz1 hz2 hz hsz ⟨g, off, none⟩ xs.length cap (xs.flatMap cs) (flat_size hcs xs) (fun j u hj => by rw [add_plain2, g3.cellAt]; exact g7 j u hj) ad 1 c (cs y) (by rw [hcs]; omega) hnews (by omega) (by unfold maxLen; omega) hb2
      obtain ⟨k1, k2⟩ := grown v' w' r2
      exact ⟨v', w', r1, k1, ⟨r3.os, r3.tape, r3.output, r3.size, fun i hi _ => r3.block i hi (by simp)⟩, k2⟩
theorem step_row {α : Type} {t sl sz by_ : Nat} {z : Value} {cs : α → List Value} (hinfo : (Tryz.prog.info? t).map (fun i => (i.zero, i.size, i.bytes)) = some (some z, sz, by_)) (hund : Tryz.prog.underlying sl = some (.slice t)) (hz : z.cells.size = sz) (hsz : 0 < sz) (hby : by_ ≤ 100)
    (hcs : ∀ x, (cs x).length = sz) (h1c : ∀ x, ∀ u ∈ cs x, u.oneCell' = true) {w : World} {ops : Array Oper} {o : Oper} {a : Act} {K : Act → World → Prop} {Q : Exit → Act → World → Prop} {E : Prop} (hgd : o.guard = none) (s x : Operand)
    (ho : o.op = .call { callee := .builtin .append, args := #[s, x], argTypes := #[sl, sl] }) (base : Nat) (v : Value) (xs : List α) (hs : a.eval s = v) (hown : Row t sz cs base w v xs)
    (ad : Addr) (c : Nat) (y : α) (hx : a.eval x = .slice (some ad) 1 c) (hnews : ∀ j u, (cs y)[j]? = some u → w.cell? (ad.add j) = some u) (hl : xs.length ≤ 1000000) (hbase : base ≤ w.heap.size)
    (h : ∀ v' w', Row t sz cs base w' v' (xs ++ [y]) → w.grownBy w' v.ownBlock → (∀ g, v'.ownBlock = some g → v.ownBlock = some g ∨ w.heap.size ≤ g) → K (a.put o.dst v') w') :
    if Region.wanted o (yielded ops a.tmps) = true then Oper.wp Tryz.prog o a w K Q else E := by
  have hw : Region.wanted o (yielded ops a.tmps) = true := by simp [Region.wanted, hgd]
  rw [if_pos hw]
  obtain ⟨v', w', hr, h2, h3, h4⟩ := run_row hinfo hund hz hsz hby hcs h1c o.type base hown ad c y hnews hl hbase
  unfold Oper.wp execOp
  simp only [ho, resolve, invoke, builtin, Sem.run_bind, Sem.run_pure, Result.andThen_ok, List.map_toArray, List.map_cons, List.map_nil, hs, hx, hr]
  exact h v' w' h2 h3 h4
theorem Tryz.info84 : (Tryz.prog.info? 84).map (fun i => (i.zero, i.size, i.bytes)) = some (some (.agg #[.int .u64 0, .int .u64 0, .slice none 0 0, .slice none 0 0]), 4, 64) := by kernel_rfl
/-- What turns at Put: the disk, the box, both rows. -/
structure PT (V k b : Nat) (vt vw vt' vw' : Value) (w w' : World) : Prop where
  os : w'.os = w.os
  tape : w'.tape = w.tape
  output : w'.output = w.output
  size : w.heap.size ≤ w'.heap.size
  block : ∀ i, i < w.heap.size → i ≠ k → i ≠ b → i ≠ V → vt.ownBlock ≠ some i → vw.ownBlock ≠ some i → w'.heap[i]? = w.heap[i]?
  ownT : ∀ g, vt'.ownBlock = some g → vt.ownBlock = some g ∨ w.heap.size ≤ g
  ownW : ∀ g, vw'.ownBlock = some g → vw.ownBlock = some g ∨ w.heap.size ≤ g
theorem PT.trans {V k b : Nat} {ta wa tb wb tc wc : Value} {w1 w2 w3 : World} (h : PT V k b ta wa tb wb w1 w2) (g : PT V k b tb wb tc wc w2 w3) : PT V k b ta wa tc wc w1 w3 :=
  ⟨g.os.trans h.os, g.tape.trans h.tape, g.output.trans h.output, Nat.le_trans h.size g.size,
   fun i hi h1 h2 h3 h4 h5 => (g.block i (Nat.lt_of_lt_of_le hi h.size) h1 h2 h3 (fun e => by rcases h.ownT i e with e | e; exact h4 e; omega) (fun e => by rcases h.ownW i e with e | e; exact h5 e; omega)).trans (h.block i hi h1 h2 h3 h4 h5),
   fun x e => by
     rcases g.ownT x e with e | e
     · exact h.ownT x e
     · exact .inr (Nat.le_trans h.size e),
   fun x e => by
     rcases g.ownW x e with e | e
     · exact h.ownW x e
     · exact .inr (Nat.le_trans h.size e)⟩
theorem PT.vt {V k b : Nat} {vt vw vw' : Value} {w w' : World} (h : VT V k b vw vw' w w') : PT V k b vt vw vt vw' w w' := ⟨h.os, h.tape, h.output, h.size, fun i hi h1 h2 h3 _ h5 => h.block i hi h1 h2 h3 h5, fun _ e => .inl e, h.own⟩
theorem PT.xt {V k b : Nat} {vt vt' vw : Value} {w w' : World} (h : XT V vt vt' w w') : PT V k b vt vw vt' vw w w' := ⟨h.os, h.tape, h.output, h.size, fun i hi _ _ h3 h4 _ => h.block i hi h3 h4, h.own, fun _ e => .inl e⟩
theorem PT.below {V k b : Nat} {vt vw : Value} {w w' : World} (hb : Below w.heap.size w w') : PT V k b vt vw vt vw w w' := PT.vt (VT.below hb)
/-- The waste is a row of someone else's, all new. -/
theorem VAt.newWaste {w0 w : World} {V k b n : Nat} {p : Pd} {keep : Int} {vt vw v : Value} {th : List SpV} {ws acc : List ByteArray} (h : VAt w0 w V k b n p keep vt vw th ws) {base : Nat} (ho : OwnS base w v acc) (hb : w0.heap.size ≤ base) (hne : ∀ j, v.ownBlock = some j → ∀ x ∈ th, x.vp.ownBlock ≠ some j) :
    VAt w0 (w.setCell ⟨V, 3, none⟩ v) V k b n p keep vt v th acc := by
  have hr : Row 9 1 scs w0.heap.size w v acc := Row.of_own (show OwnL 9 1 scs w0.heap.size w v acc from by
    have h1 := ho.mono hb
    unfold OwnS at h1
    unfold OwnL
    rw [scs_flat]; exact h1)
  exact ⟨h.st.boxed h.box (by decide) h.lV _ _, h.box.set 3 v, h.tr.setBox h.box (by decide) _ _, hr.setBox h.box (by decide) _ _, fun x hx => (h.oks x hx).setBox h.box (by decide) (by decide) (by decide) _ _, fun x hx g e => hne g e x hx, h.lV⟩
end Go.Proofs.YtbfhcbihgleddaaGreatDoor
/-
  The vault's Put as a pure function.
-/
namespace Go.Proofs.YtbfhcbihgleddaaGreatDoor
open Go.RowKit

def newestS (th : List Sp) : Nat := match th.getLast? with | some x => x.n | none => 0
def flsS (l : List Sp) : List ByteArray := l.flatMap fun x => wholeN x.n :: x.parts
theorem newest_s (th : List SpV) : newest th = newestS (th.map SpV.s) := by
  unfold newest newestS
  rw [List.getLast?_map]
  cases th.getLast? <;> rfl
theorem fls_s (l : List SpV) : fls l = flsS (l.map SpV.s) := by
  unfold fls flsS
  rw [List.flatMap_map]; rfl
def newS (n ep : Nat) (r : List (List Nat)) : Sp := ⟨n, ep, pnames n 0 r, r⟩
def pEnd (kp : Nat) (th : List Sp) (x : Sp) (y : Pd × Int × List ByteArray) : Pd × Int × List Sp × List ByteArray :=
  if y.2.1 = 0 then ((pTidy y.1 (flsS ((th ++ [x]).take (th.length + 1 - kp)))).1, 0, (th ++ [x]).drop (th.length + 1 - kp), (pTidy y.1 (flsS ((th ++ [x]).take (th.length + 1 - kp)))).2)
  else ((pTidy y.1 y.2.2).1, y.2.1, th, (pTidy y.1 y.2.2).2)
/-- What Put does. -/
def pPut (kp : Nat) (p : Pd) (th : List Sp) (ws : List ByteArray) (n ep : Nat) (r : List (List Nat) × Int) : Pd × Int × List Sp × List ByteArray :=
  if r.2 = 0 then (if n ≤ newestS th then (p, 31, th, ws) else pEnd kp th (newS n ep r.1) (pLay (newS n ep r.1) (pTidy p ws).1 (pTidy p ws).2)) else (p, r.2, th, ws)
def Fit (l : List Nat) : Prop := Byts l ∧ l.length ≤ 10000000
theorem pk_fit (ss : List Sn) : ∀ (acc : List (List Nat)) (c : List Nat), (∀ l ∈ acc, Fit l) → Fit c → c.length ≤ 1048568 → ∀ l ∈ (pk acc c ss).1, Fit l := by
  induction ss with
  | nil =>
    intro acc c ha hc _ l hl
    simp only [pk] at hl
    split at hl
    · exact ha l hl
    · rcases List.mem_append.1 hl with hl | hl
      · exact ha l hl
      · rcases List.mem_singleton.1 hl with rfl; exact hc
  | cons s ss ih =>
    intro acc c ha hc hcl l hl
    have hb := sealed_byts' _ (sOut_byts s)
    have hsl := sealed_len (sOut s)
    have hso := sOut_len s
    rw [pk] at hl
    split at hl
    · split at hl
      · refine ih _ _ (fun z hz => ?_) ⟨hb, by omega⟩ (by omega) l hl
        rcases List.mem_append.1 hz with hz | hz
        · exact ha z hz
        · rcases List.mem_singleton.1 hz with rfl; exact hc
      · refine ih _ _ ha ⟨hc.1.app hb, by rw [List.length_append]; omega⟩ (by rw [List.length_append]; omega) l hl
    · cases hl
theorem pnames_len (n : Nat) (ls : List (List Nat)) : ∀ i, (pnames n i ls).length = ls.length := by
  induction ls with
  | nil => intro i; rfl
  | cons l ls ih => intro i; rw [pnames, List.length_cons, ih, List.length_cons]
theorem partN_size {n i c : Nat} (hn : n < 18446744073709551616) (hi : i < 18446744073709551616) (hc : c < 18446744073709551616) : (partN n i c).size ≤ 100 := by
  have z1 := n36_size hn
  have z2 := n36_size hi
  have z3 := n36_size hc
  unfold partN
  simp only [size_append]
  show 5 + _ + 1 + _ + 1 + _ ≤ 100
  omega
theorem pnames_size (n : Nat) (hn : n < 18446744073709551616) (ls : List (List Nat)) : ∀ i, i + ls.length < 18446744073709551616 → (∀ l ∈ ls, Fit l) → ∀ s ∈ pnames n i ls, s.size ≤ 100 := by
  induction ls with
  | nil => intro i _ _ s hs; cases hs
  | cons l ls ih =>
    intro i hi hl s hs
    simp only [List.length_cons] at hi
    rw [pnames] at hs
    rcases List.mem_cons.1 hs with rfl | hs
    · have := crc_lt l (hl l (by simp)).1
      exact partN_size hn (by omega) (by omega)
    · exact ih (i + 1) (by omega) (fun z hz => hl z (by simp [hz])) s hs
theorem pTidy_sub (ws : List ByteArray) : ∀ p, (∀ s ∈ (pTidy p ws).2, s ∈ ws) ∧ (pTidy p ws).2.length ≤ ws.length := by
  induction ws with
  | nil => intro p; exact ⟨fun s hs => hs, Nat.le_refl _⟩
  | cons a ws ih =>
    intro p
    rw [pTidy]
    split
    · exact ⟨fun s hs => hs, Nat.le_refl _⟩
    · have := ih (pDelete p (nm a)).1
      exact ⟨fun s hs => by simp [this.1 s hs], by simp; omega⟩
theorem pStores_sub (ss : List ByteArray) : ∀ (p : Pd) (ws : List ByteArray) (ls : List (List Nat)), (∀ s ∈ (pStores p ws ss ls).2.2, s ∈ ws ∨ s ∈ ss) ∧ (pStores p ws ss ls).2.2.length ≤ ws.length + ss.length := by
  induction ss with
  | nil => intro p ws ls; simp only [pStores]; exact ⟨fun s hs => .inl hs, by simp⟩
  | cons a ss ih =>
    intro p ws ls
    have key : ∀ q : Bool, (∀ s ∈ (if q then ws ++ [a] else ws), s ∈ ws ∨ s = a) ∧ (if q then ws ++ [a] else ws).length ≤ ws.length + 1 := fun q => by
      cases q
      · exact ⟨fun s hs => .inl hs, by simp⟩
      · exact ⟨fun s hs => by simpa using hs, by simp⟩
    cases ls with
    | nil => simp only [pStores]; exact ⟨fun s hs => .inl hs, by simp⟩
    | cons l ls =>
      rw [pStores]
      have k1 := key (pStore p a l).2.2
      split
      · have := ih (pStore p a l).1 (if (pStore p a l).2.2 then ws ++ [a] else ws) ls
        refine ⟨fun s hs => ?_, by simp only [List.length_cons]; omega⟩
        rcases this.1 s hs with h | h
        · rcases k1.1 s h with h | h
          · exact .inl h
          · exact .inr (by simp [h])
        · exact .inr (by simp [h])
      · refine ⟨fun s hs => ?_, by simp only [List.length_cons]; omega⟩
        rcases k1.1 s hs with h | h
        · exact .inl h
        · exact .inr (by simp [h])
theorem pLay_sub (x : Sp) (p : Pd) (ws : List ByteArray) : (∀ s ∈ (pLay x p ws).2.2, s ∈ ws ∨ s ∈ x.parts ∨ s = freshN x.n) ∧ (pLay x p ws).2.2.length ≤ ws.length + x.parts.length + 1 := by
  have h1 := pStores_sub x.parts p ws x.chunks
  unfold pLay
  split
  · split
    · have key : ∀ q : Bool, (∀ s ∈ (if q then (pStores p ws x.parts x.chunks).2.2 ++ [freshN x.n] else (pStores p ws x.parts x.chunks).2.2), s ∈ ws ∨ s ∈ x.parts ∨ s = freshN x.n) ∧ (if q then (pStores p ws x.parts x.chunks).2.2 ++ [freshN x.n] else (pStores p ws x.parts x.chunks).2.2).length ≤ ws.length + x.parts.length + 1 := fun q => by
        cases q
        · exact ⟨fun s hs => (h1.1 s hs).imp id .inl, Nat.le_succ_of_le h1.2⟩
        · refine ⟨fun s hs => ?_, by simp; omega⟩
          rcases List.mem_append.1 hs with hs | hs
          · exact (h1.1 s hs).imp id .inl
          · exact .inr (.inr (by simpa using hs))
      unfold pLay2
      split
      · exact key _
      · exact key _
    · exact ⟨fun s hs => (h1.1 s hs).imp id .inl, Nat.le_succ_of_le h1.2⟩
  · exact ⟨fun s hs => .inl hs, by simp only; omega⟩
end Go.Proofs.YtbfhcbihgleddaaGreatDoor
