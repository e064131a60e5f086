/-
  The document's Take.
-/
import Derived.Test.YtmipgfobggbndaaRBar
namespace Go.Proofs.Ytmipgfobggbndaa
open Go.RowKit

/-- append of one thing onto a list that is full. -/
theorem run_fullR {α : Type} {t sl sz by_ : Nat} {z : Value} {cs : α → List Value} (hinfo : (Try.prog.info? t).map (fun i => (i.zero, i.size, i.bytes)) = some (some z, sz, by_)) (hund : Try.prog.underlying sl = some (.slice t)) (hz : z.cells.size = sz) (hsz : 0 < sz) (hby : by_ ≤ 100)
    (hcs : ∀ x, (cs x).length = sz) (h1c : ∀ x, ∀ u ∈ cs x, u.oneCell' = true) {w : World} (ty : TypeId) {ao : Option Addr} {xs : List α} (hs : xs = [] ∨ ∃ b off, ao = some ⟨b, off, none⟩ ∧ ∀ (i : Nat) (x : α), xs[i]? = some x → ∀ (j : Nat) (u : Value), (cs x)[j]? = some u → w.cell? ⟨b, off + i * sz + j, none⟩ = some u)
    (ad : Addr) (c : Nat) (y : α) (hnews : ∀ j u, (cs y)[j]? = some u → w.cell? (ad.add j) = some u) (hl : xs.length ≤ 1000000) :
    ∃ v' w', (Builtin.append_ #[sl, sl] ty #[.slice ao xs.length xs.length, .slice (some ad) 1 c]).run Try.prog w = .ok v' w' ∧ OwnL t sz cs w.heap.size w' v' (xs ++ [y]) ∧ Below w.heap.size w w' := by
  obtain ⟨i0, hi, hz0, hz1, hz2⟩ := info_parts hinfo
  have hb2 : (xs.length + 1) * by_ ≤ 140737488355328 := by
    have : (xs.length + 1) * by_ ≤ 1000001 * 100 := Nat.mul_le_mul (by omega) hby
    omega
  have fin : ∀ v' w', w'.ownsRow w.heap.size t sz v' (xs.length + 1) (xs.flatMap cs ++ cs y) → OwnL t sz cs w.heap.size w' v' (xs ++ [y]) := by
    intro v' w' h1
    show w'.ownsRow _ t sz v' (xs ++ [y]).length ((xs ++ [y]).flatMap cs)
    rw [List.length_append, List.flatMap_append]; simpa using h1
  cases ao with
  | none =>
    have h0 : xs = [] := by
      rcases hs with h | ⟨b, off, e, _⟩
      · exact h
      · cases e
    subst h0
    obtain ⟨v', w', r1, r2, r3, _, _⟩ := run_append_own_at (P := Try.prog) w w.heap.size sl ty t i0 z sz by_ hund hi hz0 hz1 hz2 hz hsz (.slice none 0 0) 0 [] (World.ownsRow_nil _ _ _ _) ad 1 c (cs y) (by rw [hcs]; omega) hnews (h1c y) (by unfold maxLen; omega) (by simpa using hb2) (Nat.le_refl _)
    exact ⟨v', w', r1, fin v' w' (by simpa using r2), ⟨r3.os, r3.tape, r3.output, r3.size, fun i hi => r3.block i hi (by simp [Value.ownBlock])⟩⟩
  | some a =>
    have hc : ∀ j u, (xs.flatMap cs)[j]? = some u → w.cell? (a.add j) = some u := by
      rcases hs with rfl | ⟨b, off, e, hc⟩
      · intro j u h; simp at h
      · cases e
        intro j u h
        rw [add_plain2]
        exact flat_seg hcs hsz hc j u h
    obtain ⟨v', w', r1, r2, r3⟩ := run_append_arg_grows (P := Try.prog) w sl ty t i0 z sz by_ hund hi hz0 hz1 hz2 hz hsz a xs.length xs.length (xs.flatMap cs) (flat_size hcs xs) hc ad 1 c (cs y) (by rw [hcs]; omega) hnews (by omega) (by unfold maxLen; omega) hb2
    exact ⟨v', w', r1, fin v' w' r2, ⟨r3.os, r3.tape, r3.output, r3.size, fun i hi => r3.block i hi (by simp)⟩⟩
theorem step_fullR {α : Type} {t sl sz by_ : Nat} {z : Value} {cs : α → List Value} (hinfo : (Try.prog.info? t).map (fun i => (i.zero, i.size, i.bytes)) = some (some z, sz, by_)) (hund : Try.prog.underlying sl = some (.slice t)) (hz : z.cells.size = sz) (hsz : 0 < sz) (hby : by_ ≤ 100)
    (hcs : ∀ x, (cs x).length = sz) (h1c : ∀ x, ∀ u ∈ cs x, u.oneCell' = true) {w : World} {ops : Array Oper} {o : Oper} {a' : Act} {K : Act → World → Prop} {Q : Exit → Act → World → Prop} {E : Prop} (hgd : o.guard = none) (s x : Operand)
    (ho : o.op = .call { callee := .builtin .append, args := #[s, x], argTypes := #[sl, sl] }) (ao : Option Addr) (xs : List α) {p : Nat} (hp : xs.length = p) (hs : a'.eval s = .slice ao p p) (hsx : xs = [] ∨ ∃ b off, ao = some ⟨b, off, none⟩ ∧ ∀ (i : Nat) (x : α), xs[i]? = some x → ∀ (j : Nat) (u : Value), (cs x)[j]? = some u → w.cell? ⟨b, off + i * sz + j, none⟩ = some u)
    (ad : Addr) (c : Nat) (y : α) (hx : a'.eval x = .slice (some ad) 1 c) (hnews : ∀ j u, (cs y)[j]? = some u → w.cell? (ad.add j) = some u) (hl : xs.length ≤ 1000000)
    (h : ∀ v' w', OwnL t sz cs w.heap.size w' v' (xs ++ [y]) → Below w.heap.size w w' → K (a'.put o.dst v') w') : if Region.wanted o (yielded ops a'.tmps) = true then Oper.wp Try.prog o a' w K Q else E := by
  subst hp
  have hw : Region.wanted o (yielded ops a'.tmps) = true := by simp [Region.wanted, hgd]
  rw [if_pos hw]
  obtain ⟨v', w', hr, h2, h3⟩ := run_fullR hinfo hund hz hsz hby hcs h1c o.type hsx ad c y hnews hl
  unfold Oper.wp execOp
  simp only [ho, resolve, invoke, builtin, Sem.run_bind, Sem.run_pure, Result.andThen_ok, List.map_toArray, List.map_cons, List.map_nil, hs, hx, hr]
  exact h v' w' h2 h3
set_option maxHeartbeats 4000000 in
set_option maxRecDepth 100000 in
theorem rTake_none {w : World} {R : Nat} {fq : Nat → Prop} {r : Gs} (h : RA w R fq r) (f : Fr) (ch : Int) (hh : r.has ch = false) : Calls Try.prog 14 #[.pointer (some ⟨R, 0, none⟩), .int .i64 ch, f.val] w fun e w' => e = .returned (.tuple #[.agg #[.int .i64 0, .int .i64 0, .int .i64 0, .int .i64 0, .int .i64 0, .int .u64 0, .int .u64 0], .int .i64 150]) ∧ ∃ fq', RA w' R fq' r ∧ FT fq fq' w w' := by
  have A0 := RTP.new h f
  clear h
  have hh := of_decide_eq_false hh
  unfold Fr.val
  unfold Fr.ar zeroSn at A0
  go_enter Try.func14, Try.ntmps14
  go_upto_region 1 with fail
  refine wp_at (RTP w R fq r f) A0 ?_
  clear A0
  intro V A
  obtain ⟨F1, R1, fp1, G1, T1, N0, N1⟩ := A
  obtain ⟨f0, f1, f2, f3, f4, f5, f6⟩ := BoxT.all7 F1
  obtain ⟨p0, p1, p2, p3, p4, p5, p6⟩ := BoxT.all7 R1
  have rf := R1.free
  have HF := hide F1
  have HR := hide R1
  have HG := hide G1
  have HT := hide T1
  have HN0 := hide N0
  have HN1 := hide N1
  obtain ⟨fd, mv, cv, kv, X, hfd⟩ := G1
  obtain ⟨c0, c1, c2, c3, c4, c5⟩ := X.cells
  have HX0 := hide X
  have HFD := hide hfd
  obtain ⟨ma, mc, rfl, hmc⟩ := X.m.shape
  have hle64 := X.le
  clear F1 R1 T1 N0 N1 X hfd
  by_cases hneg : ch < 0
  · go_wp2_with fail
    have z := (BoxT.ch7 HR.out (.int .i64 0) (.int .i64 0) (.int .i64 0) (.int .i64 0) (.int .i64 0) (.int .u64 0) (.int .u64 0)).all7
    exact bodyPost_ret (v := .tuple #[.agg #[.int .i64 0, .int .i64 0, .int .i64 0, .int .i64 0, .int .i64 0, .int .u64 0, .int .u64 0], .int .i64 150]) (by simp [results, Try.results14, go_sem, z.1, z.2.1, z.2.2.1, z.2.2.2.1, z.2.2.2.2.1, z.2.2.2.2.2.1, z.2.2.2.2.2.2]; try rfl) rfl ⟨rfl, fp1, HG.out.ch7 HN1.out (.int .i64 0) (.int .i64 0) (.int .i64 0) (.int .i64 0) (.int .i64 0) (.int .u64 0) (.int .u64 0), HT.out.ch7 (Nat.le_succ _) (.int .i64 0) (.int .i64 0) (.int .i64 0) (.int .i64 0) (.int .i64 0) (.int .u64 0) (.int .u64 0)⟩
  · have h2 : (r.M.length : Int) ≤ ch := by omega
    have h3 : ¬ ch < (r.M.length : Int) := by omega
    go_wp2_with fail
    have z := (BoxT.ch7 HR.out (.int .i64 0) (.int .i64 0) (.int .i64 0) (.int .i64 0) (.int .i64 0) (.int .u64 0) (.int .u64 0)).all7
    exact bodyPost_ret (v := .tuple #[.agg #[.int .i64 0, .int .i64 0, .int .i64 0, .int .i64 0, .int .i64 0, .int .u64 0, .int .u64 0], .int .i64 150]) (by simp [results, Try.results14, go_sem, z.1, z.2.1, z.2.2.1, z.2.2.2.1, z.2.2.2.2.1, z.2.2.2.2.2.1, z.2.2.2.2.2.2]; try rfl) rfl ⟨rfl, fp1, HG.out.ch7 HN1.out (.int .i64 0) (.int .i64 0) (.int .i64 0) (.int .i64 0) (.int .i64 0) (.int .u64 0) (.int .u64 0), HT.out.ch7 (Nat.le_succ _) (.int .i64 0) (.int .i64 0) (.int .i64 0) (.int .i64 0) (.int .i64 0) (.int .u64 0) (.int .u64 0)⟩
set_option maxHeartbeats 4000000 in
set_option maxRecDepth 100000 in
theorem rTake_shut {w : World} {R : Nat} {fq : Nat → Prop} {r : Gs} (h : RA w R fq r) (f : Fr) {c : Nat} (hc : c < r.M.length) (hb : r.bl (c : Int) = true) : Calls Try.prog 14 #[.pointer (some ⟨R, 0, none⟩), .int .i64 (c : Int), f.val] w fun e w' => e = .returned (.tuple #[.agg #[.int .i64 0, .int .i64 0, .int .i64 0, .int .i64 0, .int .i64 0, .int .u64 0, .int .u64 0], .int .i64 150]) ∧ ∃ fq', RA w' R fq' r ∧ FT fq fq' w w' := by
  have A0 := RTP.new h f
  clear h
  unfold Fr.val
  unfold Fr.ar zeroSn at A0
  go_enter Try.func14, Try.ntmps14
  go_upto_region 1 with fail
  refine wp_at (RTP w R fq r f) A0 ?_
  clear A0
  intro V A
  obtain ⟨F1, R1, fp1, G1, T1, N0, N1⟩ := A
  obtain ⟨f0, f1, f2, f3, f4, f5, f6⟩ := BoxT.all7 F1
  obtain ⟨p0, p1, p2, p3, p4, p5, p6⟩ := BoxT.all7 R1
  have rf := R1.free
  have HF := hide F1
  have HR := hide R1
  have HG := hide G1
  have HT := hide T1
  have HN0 := hide N0
  have HN1 := hide N1
  obtain ⟨fd, mv, cv, kv, X, hfd⟩ := G1
  obtain ⟨c0, c1, c2, c3, c4, c5⟩ := X.cells
  have HX0 := hide X
  have HFD := hide hfd
  obtain ⟨ma, mc, rfl, hmc⟩ := X.m.shape
  have hle64 := X.le
  clear F1 R1 T1 N0 N1 X hfd
  have hi : (c : Int) < (r.M.length : Int) := by omega
  have h3 : ¬ (r.M.length : Int) ≤ (c : Int) := by omega
  have HBL := hide (rBlocked_any HG.out (c : Int))
  rw [hb] at HBL
  go_wp2_with (go_at_call 24; refine HBL.out.mono ?_; rintro e w1 ⟨rfl, rfl⟩)
  have z := (BoxT.ch7 HR.out (.int .i64 0) (.int .i64 0) (.int .i64 0) (.int .i64 0) (.int .i64 0) (.int .u64 0) (.int .u64 0)).all7
  exact bodyPost_ret (v := .tuple #[.agg #[.int .i64 0, .int .i64 0, .int .i64 0, .int .i64 0, .int .i64 0, .int .u64 0, .int .u64 0], .int .i64 150]) (by simp [results, Try.results14, go_sem, z.1, z.2.1, z.2.2.1, z.2.2.2.1, z.2.2.2.2.1, z.2.2.2.2.2.1, z.2.2.2.2.2.2]; try rfl) rfl ⟨rfl, fp1, HG.out.ch7 HN1.out (.int .i64 0) (.int .i64 0) (.int .i64 0) (.int .i64 0) (.int .i64 0) (.int .u64 0) (.int .u64 0), HT.out.ch7 (Nat.le_succ _) (.int .i64 0) (.int .i64 0) (.int .i64 0) (.int .i64 0) (.int .i64 0) (.int .u64 0) (.int .u64 0)⟩
set_option maxHeartbeats 4000000 in
set_option maxRecDepth 100000 in
theorem rTake_rec {w : World} {R : Nat} {fq : Nat → Prop} {r : Gs} (h : RA w R fq r) (f : Fr) {c : Nat} (hc : c < r.M.length) (hb : r.bl (c : Int) = false) (hl : r.cp.length ≤ 100000) (k1 : f.kd = 1) : Calls Try.prog 14 #[.pointer (some ⟨R, 0, none⟩), .int .i64 (c : Int), f.val] w fun e w' => e = .returned (.tuple #[.agg #[.int .i64 1, .int .i64 f.ke, .int .i64 f.ti, .int .i64 f.va, .int .i64 0, .int .u64 0, .int .u64 0], .int .i64 0]) ∧ ∃ fq', RA w' R fq' (r.capt c f) ∧ FT fq fq' w w' := by
  have A0 := RTP.new h f
  clear h
  have b1 : (f.kd == 1) = true := by simpa using k1
  have HK := hide k1
  clear k1
  obtain ⟨s1, hs1⟩ : ∃ s1, s1 = r.capt c f := ⟨_, rfl⟩
  have HS0 := hide hs1
  clear hs1
  rw [← HS0.out]
  unfold Fr.val
  unfold Fr.ar zeroSn at A0
  go_enter Try.func14, Try.ntmps14
  go_upto_region 1 with fail
  refine wp_at (RTP w R fq r f) A0 ?_
  clear A0
  intro V A
  obtain ⟨F1, R1, fp1, G1, T1, N0, N1⟩ := A
  obtain ⟨f0, f1, f2, f3, f4, f5, f6⟩ := BoxT.all7 F1
  obtain ⟨p0, p1, p2, p3, p4, p5, p6⟩ := BoxT.all7 R1
  have rf := R1.free
  have HF := hide F1
  have HR := hide R1
  have HG := hide G1
  have HT := hide T1
  have HN0 := hide N0
  have HN1 := hide N1
  obtain ⟨fd, mv, cv, kv, X, hfd⟩ := G1
  obtain ⟨c0, c1, c2, c3, c4, c5⟩ := X.cells
  have HX0 := hide X
  have HFD := hide hfd
  obtain ⟨ma, mc, rfl, hmc⟩ := X.m.shape
  have hle64 := X.le
  clear F1 R1 T1 N0 N1 X hfd
  have hi : (c : Int) < (r.M.length : Int) := by omega
  have h3 : ¬ (r.M.length : Int) ≤ (c : Int) := by omega
  have HBL := hide (rBlocked_any HG.out (c : Int))
  rw [hb] at HBL
  obtain ⟨b, hbc⟩ := get_of_lt (show c < r.co.length by rw [HX0.out.len]; exact hc)
  obtain ⟨ca, cc, rfl, hcc⟩ := HX0.out.c.shape
  obtain ⟨cb, co, rfl, _, e6⟩ := seg_bool HX0.out.c.lseg hbc
  have hic : (c : Int) < (r.co.length : Int) := by rw [HX0.out.len]; omega
  have h64c : r.co.length ≤ 64 := by rw [HX0.out.len]; exact hle64
  have HCT : Hid ((decide (r.un ≠ 0) && r.ov && !b) = decide (r.un ≠ 0 ∧ r.ov = true ∧ r.co[c]? = some false)) := (show _ = _ by rw [hbc]; cases r.ov <;> cases b <;> simp)
  clear hbc
  go_upto_region 3 with (go_at_call 24; refine HBL.out.mono ?_; rintro e w1 ⟨rfl, rfl⟩)
  clear HBL
  go_cut [8] from 27 to 47 (fun v8 wx => v8 = .bool (decide (r.un ≠ 0) && r.ov && !b) ∧ wx = V)
  case first =>
    generalize r.co.length = nn at *
    generalize r.un = un at *
    by_cases h0 : un = 0
    · subst h0
      go_wp2_with fail
      go_meet
      exact ⟨by simp, rfl⟩
    · cases hov : r.ov with
      | false =>
        rw [hov] at c3
        go_wp2_with fail
        go_meet
        exact ⟨by simp [hov], rfl⟩
      | true =>
        rw [hov] at c3
        go_wp2_with fail
        go_meet
        exact ⟨by simp [h0, hov], rfl⟩
  case rest =>
    obtain ⟨hv8, hwx⟩ := hcut
    rw [HCT.out] at hv8
    have hwx2 := hwx.symm
    subst hwx2
    subst hv8
    clear hwx
    cases hct : decide (r.un ≠ 0 ∧ r.ov = true ∧ r.co[c]? = some false) with
    | true =>
      have HS1 : Hid (s1 = { r with cp := r.cp ++ [⟨(c : Int), f⟩] }) := (show _ = _ by rw [HS0.out]; unfold Gs.capt; rw [if_pos (of_decide_eq_true hct)])
      clear hct
      obtain ⟨ka, kc, rfl, hkc⟩ := HX0.out.k.shape
      have hcp : r.cp.length ≤ 100000 := hl
      have hkR := HX0.out.box.lt
      have hkF := HF.out.lt
      have frR := HX0.out.box.free
      have HSEG : Hid (∀ W', Below V.heap.size V W' → (r.cp = [] ∨ ∃ b off, ka = some ⟨b, off, none⟩ ∧ ∀ (i : Nat) (x : Ou), r.cp[i]? = some x → ∀ (j : Nat) (u : Value), (Ou.cs x)[j]? = some u → W'.cell? ⟨b, off + i * 8 + j, none⟩ = some u)) := (show ∀ W', _ from fun W' hb => by
        obtain ⟨ao, cp2, e, _, _, hs⟩ := HX0.out.k
        cases e
        rcases hs with hs | ⟨b, off, e2, _, hlt, hcell⟩
        · exact .inl hs
        · exact .inr ⟨b, off, e2, fun i x hi j u hu => (hb.cell (p := ⟨b, off + i * 8 + j, none⟩) hlt).trans (hcell i x hi j u hu)⟩)
      have HNX : Hid (∀ v5 w5, OwnL 65 8 Ou.cs V.heap.size w5 v5 (r.cp ++ [⟨(c : Int), f⟩]) → Below V.heap.size V w5 → BoxT 33 w5 R #[.slice ma r.M.length mc, .int .u64 r.la, .int .u64 r.un, .bool r.ov, .slice (some ⟨cb, co, none⟩) r.co.length cc, .slice ka r.cp.length kc] ∧ RTP w R fq { r with cp := r.cp ++ [⟨(c : Int), f⟩] } f (w5.setCell ⟨R, 5, none⟩ v5)) := (show ∀ v5 w5, _ from fun v5 w5 o5 b5 => by
        have hX := HX0.out
        have hb5 := hX.box.below b5
        have hT : Turned R R V (w5.setCell ⟨R, 5, none⟩ v5) := (Turned.below b5).trans (Turned.set R R w5 5 v5)
        obtain ⟨fq2, g2, t2⟩ := RA.of (r' := { r with cp := r.cp ++ [⟨(c : Int), f⟩] }) (mv' := .slice ma r.M.length mc) (cv' := .slice (some ⟨cb, co, none⟩) r.co.length cc) (kv' := v5) HFD.out hX.nR hX.flt hX.box.lt hT (by simpa using hb5.set 5 v5) (hX.m.old hX.nR hT) (hX.c.old hX.nR hT) (RSeg.fresh (o5.otherBox hb5 (by decide) 5 v5) Ou.cs_len (by simp; omega)) hX.len hX.pos hX.le hX.la0
        exact ⟨hb5, RTP.step HF.out HR.out HT.out HN0.out HN1.out g2 t2⟩)
      generalize hpp : r.cp.length = p at *
      have hkc2 : (p : Int) ≤ (kc : Int) := by omega
      have HPP := hide hpp
      have BB := hide (((Below.refl V.heap.size V).drew).alloc (Nat.le_refl _) (.cells #[.int .i64 (c : Int), .int .i64 f.kd, .int .i64 f.ke, .int .i64 f.ti, .int .i64 f.va, .int .i64 f.ma, .int .u64 f.n, .bool f.ov] 65))
      have BX := hide (BoxT.new_at (t := 65) (w := V) (cs := #[.int .i64 (c : Int), .int .i64 f.kd, .int .i64 f.ke, .int .i64 f.ti, .int .i64 f.va, .int .i64 f.ma, .int .u64 f.n, .bool f.ov]) (k := V.heap.size) rfl)
      have KC : Hid (∀ w' : World, Below V.heap.size V w' → w'.cell? ⟨R, 5, none⟩ = some (.slice ka p kc) ∧ w'.cell? ⟨w.heap.size, 0, none⟩ = some (.int .i64 f.kd) ∧ w'.cell? ⟨w.heap.size, 1, none⟩ = some (.int .i64 f.ke) ∧ w'.cell? ⟨w.heap.size, 2, none⟩ = some (.int .i64 f.ti) ∧ w'.cell? ⟨w.heap.size, 3, none⟩ = some (.int .i64 f.va) ∧ w'.cell? ⟨w.heap.size, 4, none⟩ = some (.int .i64 f.ma) ∧ w'.cell? ⟨w.heap.size, 5, none⟩ = some (.int .u64 f.n) ∧ w'.cell? ⟨w.heap.size, 6, none⟩ = some (.bool f.ov)) := fun w' hb => ⟨(hb.cell (p := ⟨R, 5, none⟩) hkR).trans c5, (hb.cell (p := ⟨w.heap.size, 0, none⟩) hkF).trans f0, (hb.cell (p := ⟨w.heap.size, 1, none⟩) hkF).trans f1, (hb.cell (p := ⟨w.heap.size, 2, none⟩) hkF).trans f2, (hb.cell (p := ⟨w.heap.size, 3, none⟩) hkF).trans f3, (hb.cell (p := ⟨w.heap.size, 4, none⟩) hkF).trans f4, (hb.cell (p := ⟨w.heap.size, 5, none⟩) hkF).trans f5, (hb.cell (p := ⟨w.heap.size, 6, none⟩) hkF).trans f6⟩
      go_upto_region 5 with fail
      refine wp_region_M (S := fun w' => w'.cell? ⟨R, 5, none⟩ = some (.slice ka p kc) ∧ w'.cell? ⟨w.heap.size, 0, none⟩ = some (.int .i64 f.kd) ∧ w'.cell? ⟨w.heap.size, 1, none⟩ = some (.int .i64 f.ke) ∧ w'.cell? ⟨w.heap.size, 2, none⟩ = some (.int .i64 f.ti) ∧ w'.cell? ⟨w.heap.size, 3, none⟩ = some (.int .i64 f.va) ∧ w'.cell? ⟨w.heap.size, 4, none⟩ = some (.int .i64 f.ma) ∧ w'.cell? ⟨w.heap.size, 5, none⟩ = some (.int .u64 f.n) ∧ w'.cell? ⟨w.heap.size, 6, none⟩ = some (.bool f.ov)) (late := [21, 22, 23]) (by kernel_rfl) (KC.out _ ((Below.refl _ _).drew)) (fun hHeld => ?_)
      (try simp only [List.size_toArray, List.length_cons, List.length_nil, Nat.zero_add, Nat.reduceAdd, Array.replicate, List.replicate])
      refine wpAnyM_take (i := 0) (oi := ⟨_, _, _, _, _, _⟩) (v := ?_) rfl (by kernel_rfl) (by kernel_rfl) (by kernel_rfl) (by kernel_rfl) (fun _ _ _ h => h) (Or.inl ⟨by rfl, ?_⟩) hHeld ?_
      rotate_left
      · (intro w' hSw; (try dsimp only at hSw); go_simp; try (with_reducible rfl))
      (try simp only [Act.put, List.setIfInBounds_toArray, List.set_cons_zero, List.set_cons_succ])
      refine wpAnyM_take (i := 1) (oi := ⟨_, _, _, _, _, _⟩) (v := ?_) rfl (by kernel_rfl) (by kernel_rfl) (by kernel_rfl) (by kernel_rfl) (fun _ _ _ h => h) (Or.inl ⟨by rfl, ?_⟩) hHeld ?_
      rotate_left
      · (intro w' hSw; (try dsimp only at hSw); go_simp; try (with_reducible rfl))
      (try simp only [Act.put, List.setIfInBounds_toArray, List.set_cons_zero, List.set_cons_succ])
      refine wpAnyM_take (i := 2) (oi := ⟨_, _, _, _, _, _⟩) (v := ?_) rfl (by kernel_rfl) (by kernel_rfl) (by kernel_rfl) (by kernel_rfl) (fun _ _ _ h => h) (Or.inl ⟨by rfl, ?_⟩) hHeld ?_
      rotate_left
      · (intro w' hSw; (try dsimp only at hSw); go_simp; try (with_reducible rfl))
      (try simp only [Act.put, List.setIfInBounds_toArray, List.set_cons_zero, List.set_cons_succ])
      refine wpAnyM_take (i := 3) (oi := ⟨_, _, _, _, _, _⟩) (v := ?_) rfl (by kernel_rfl) (by kernel_rfl) (by kernel_rfl) (by kernel_rfl) (fun _ _ _ h => h) (Or.inl ⟨by rfl, ?_⟩) hHeld ?_
      rotate_left
      · (intro w' hSw; (try dsimp only at hSw); go_simp; try (with_reducible rfl))
      (try simp only [Act.put, List.setIfInBounds_toArray, List.set_cons_zero, List.set_cons_succ])
      refine wpAnyM_take (i := 4) (oi := ⟨_, _, _, _, _, _⟩) (v := ?_) rfl (by kernel_rfl) (by kernel_rfl) (by kernel_rfl) (by kernel_rfl) (fun _ _ _ h => h) (Or.inl ⟨by rfl, ?_⟩) hHeld ?_
      rotate_left
      · (intro w' hSw; (try dsimp only at hSw); go_simp; try (with_reducible rfl))
      (try simp only [Act.put, List.setIfInBounds_toArray, List.set_cons_zero, List.set_cons_succ])
      refine wpAnyM_take (i := 5) (oi := ⟨_, _, _, _, _, _⟩) (v := ?_) rfl (by kernel_rfl) (by kernel_rfl) (by kernel_rfl) (by kernel_rfl) (fun _ _ _ h => h) (Or.inl ⟨by rfl, ?_⟩) hHeld ?_
      rotate_left
      · (intro w' hSw; (try dsimp only at hSw); go_simp; try (with_reducible rfl))
      (try simp only [Act.put, List.setIfInBounds_toArray, List.set_cons_zero, List.set_cons_succ])
      refine wpAnyM_take (i := 6) (oi := ⟨_, _, _, _, _, _⟩) (v := ?_) rfl (by kernel_rfl) (by kernel_rfl) (by kernel_rfl) (by kernel_rfl) (fun _ _ _ h => h) (Or.inl ⟨by rfl, ?_⟩) hHeld ?_
      rotate_left
      · (intro w' hSw; (try dsimp only at hSw); go_simp; try (with_reducible rfl))
      (try simp only [Act.put, List.setIfInBounds_toArray, List.set_cons_zero, List.set_cons_succ])
      refine wpAnyM_take (i := 7) (oi := ⟨_, _, _, _, _, _⟩) (v := ?_) rfl (by kernel_rfl) (by kernel_rfl) (by kernel_rfl) (by kernel_rfl) (fun _ _ _ h => h) (Or.inl ⟨by rfl, ?_⟩) hHeld ?_
      rotate_left
      · (intro w' hSw; (try dsimp only at hSw); go_simp; try (with_reducible rfl))
      (try simp only [Act.put, List.setIfInBounds_toArray, List.set_cons_zero, List.set_cons_succ])
      refine wpAnyM_take (i := 8) (oi := ⟨_, _, _, _, _, _⟩) (v := ?_) rfl (by kernel_rfl) (by kernel_rfl) (by kernel_rfl) (by kernel_rfl) (fun _ _ _ h => h) (Or.inl ⟨by rfl, ?_⟩) hHeld ?_
      rotate_left
      · (intro w' hSw; (try dsimp only at hSw); go_simp; try (with_reducible rfl))
      (try simp only [Act.put, List.setIfInBounds_toArray, List.set_cons_zero, List.set_cons_succ])
      refine wpAnyM_take (i := 9) (oi := ⟨_, _, _, _, _, _⟩) (v := ?_) rfl (by kernel_rfl) (by kernel_rfl) (by kernel_rfl) (by kernel_rfl) (fun _ _ _ h => h) (Or.inl ⟨by rfl, ?_⟩) hHeld ?_
      rotate_left
      · (intro w' hSw; (try dsimp only at hSw); go_simp; try (with_reducible rfl))
      (try simp only [Act.put, List.setIfInBounds_toArray, List.set_cons_zero, List.set_cons_succ])
      refine wpAnyM_take (i := 10) (oi := ⟨_, _, _, _, _, _⟩) (v := ?_) rfl (by kernel_rfl) (by kernel_rfl) (by kernel_rfl) (by kernel_rfl) (fun _ _ _ h => h) (Or.inl ⟨by rfl, ?_⟩) hHeld ?_
      rotate_left
      · (intro w' hSw; (try dsimp only at hSw); go_simp; try (with_reducible rfl))
      (try simp only [Act.put, List.setIfInBounds_toArray, List.set_cons_zero, List.set_cons_succ])
      refine wpAnyM_take (i := 11) (oi := ⟨_, _, _, _, _, _⟩) (v := ?_) rfl (by kernel_rfl) (by kernel_rfl) (by kernel_rfl) (by kernel_rfl) (fun _ _ _ h => h) (Or.inl ⟨by rfl, ?_⟩) hHeld ?_
      rotate_left
      · (intro w' hSw; (try dsimp only at hSw); go_simp; try (with_reducible rfl))
      (try simp only [Act.put, List.setIfInBounds_toArray, List.set_cons_zero, List.set_cons_succ])
      refine wpAnyM_take (i := 12) (oi := ⟨_, _, _, _, _, _⟩) (v := ?_) rfl (by kernel_rfl) (by kernel_rfl) (by kernel_rfl) (by kernel_rfl) (fun _ _ _ h => h) (Or.inl ⟨by rfl, ?_⟩) hHeld ?_
      rotate_left
      · (intro w' hSw; (try dsimp only at hSw); go_simp; try (with_reducible rfl))
      (try simp only [Act.put, List.setIfInBounds_toArray, List.set_cons_zero, List.set_cons_succ])
      refine wpAnyM_take (i := 13) (oi := ⟨_, _, _, _, _, _⟩) (v := ?_) rfl (by kernel_rfl) (by kernel_rfl) (by kernel_rfl) (by kernel_rfl) (fun _ _ _ h => h) (Or.inl ⟨by rfl, ?_⟩) hHeld ?_
      rotate_left
      · (intro w' hSw; (try dsimp only at hSw); go_simp; try (with_reducible rfl))
      (try simp only [Act.put, List.setIfInBounds_toArray, List.set_cons_zero, List.set_cons_succ])
      refine wpAnyM_take (i := 14) (oi := ⟨_, _, _, _, _, _⟩) (v := ?_) rfl (by kernel_rfl) (by kernel_rfl) (by kernel_rfl) (by kernel_rfl) (fun _ _ _ h => h) (Or.inl ⟨by rfl, ?_⟩) hHeld ?_
      rotate_left
      · (intro w' hSw; (try dsimp only at hSw); go_simp; try (with_reducible rfl))
      (try simp only [Act.put, List.setIfInBounds_toArray, List.set_cons_zero, List.set_cons_succ])
      refine wpAnyM_take (i := 15) (oi := ⟨_, _, _, _, _, _⟩) (v := ?_) rfl (by kernel_rfl) (by kernel_rfl) (by kernel_rfl) (by kernel_rfl) (fun _ _ _ h => h) (Or.inl ⟨by rfl, ?_⟩) hHeld ?_
      rotate_left
      · (intro w' hSw; (try dsimp only at hSw); go_simp; try (with_reducible rfl))
      (try simp only [Act.put, List.setIfInBounds_toArray, List.set_cons_zero, List.set_cons_succ])
      refine wpAnyM_take (i := 16) (oi := ⟨_, _, _, _, _, _⟩) (v := ?_) rfl (by kernel_rfl) (by kernel_rfl) (by kernel_rfl) (by kernel_rfl) (fun _ _ _ h => h) (Or.inl ⟨by rfl, ?_⟩) hHeld ?_
      rotate_left
      · (intro w' hSw; (try dsimp only at hSw); go_simp; try (with_reducible rfl))
      (try simp only [Act.put, List.setIfInBounds_toArray, List.set_cons_zero, List.set_cons_succ])
      refine wpAnyM_take (i := 17) (oi := ⟨_, _, _, _, _, _⟩) (v := ?_) rfl (by kernel_rfl) (by kernel_rfl) (by kernel_rfl) (by kernel_rfl) (fun _ _ _ h => h) (Or.inl ⟨by rfl, ?_⟩) hHeld ?_
      rotate_left
      · (intro w' hSw; (try dsimp only at hSw); go_simp; try (with_reducible rfl))
      (try simp only [Act.put, List.setIfInBounds_toArray, List.set_cons_zero, List.set_cons_succ])
      refine wpAnyM_take (i := 18) (oi := ⟨_, _, _, _, _, _⟩) (v := ?_) rfl (by kernel_rfl) (by kernel_rfl) (by kernel_rfl) (by kernel_rfl) (fun _ _ _ h => h) (Or.inl ⟨by rfl, ?_⟩) hHeld ?_
      rotate_left
      · (intro w' hSw; (try dsimp only at hSw); go_simp; try (with_reducible rfl))
      (try simp only [Act.put, List.setIfInBounds_toArray, List.set_cons_zero, List.set_cons_succ])
      refine wpAnyM_one (i := 19) (o := ⟨_, _, _, _, _, _⟩) (by kernel_rfl) rfl (fun K hK => ?_)
      go_simp
      refine hK.out _ _ (KC.out _ BB.out) (fun hHeld => ?_)
      clear hK K
      (try simp only [List.setIfInBounds_toArray, List.set_cons_zero, List.set_cons_succ])
      refine wpAnyM_one (i := 20) (o := ⟨_, _, _, _, _, _⟩) (by kernel_rfl) rfl (fun K hK => ?_)
      (refine step_fullR Try.infoOu Try.underlying31 rfl (by decide) (by decide) Ou.cs_len Ou.cs_one rfl _ _ rfl ka r.cp HPP.out rfl (HSEG.out _ BB.out) ⟨V.heap.size, 0, none⟩ 1 (⟨(c : Int), f⟩ : Ou) rfl (fun j u hu => by rw [add_plain2, Nat.zero_add]; exact ((BX.out.drew).cellAt j).trans (Ou.at ⟨(c : Int), f⟩ j u hu)) (by rw [HPP.out]; omega) ?_; intro v5 w5 o5 b5; have B5 := hide (BB.out.trans (b5.mono BB.out.size)); obtain ⟨hb5, hrt5⟩ := HNX.out v5 w5 (o5.mono BB.out.size) B5.out; have HRT := hide hrt5; have fr5 := hb5.free; have d5 := (hb5.cellAt 5).trans rfl; obtain ⟨a5, e5, hv5⟩ := o5.shape; generalize hn5 : (r.cp ++ [(⟨(c : Int), f⟩ : Ou)]).length = n5 at hv5; subst hv5; clear o5 b5 hrt5 hb5 hn5)
      refine hK.out _ _ (KC.out _ B5.out) (fun hHeld => ?_)
      clear hK K
      (try simp only [List.setIfInBounds_toArray, List.set_cons_zero, List.set_cons_succ])
      refine wpAnyM_last (i := 21) (o := ⟨_, _, _, _, _, _⟩) (by kernel_rfl) (by rfl) rfl (fun K hK => ?_)
      go_simp
      refine hK.out _ _ ?_
      clear hK K
      (try simp only [List.setIfInBounds_toArray, List.set_cons_zero, List.set_cons_succ])
      refine wpAnyM_last (i := 22) (o := ⟨_, _, _, _, _, _⟩) (by kernel_rfl) (by rfl) rfl (fun K hK => ?_)
      go_simp
      refine hK.out _ _ ?_
      clear hK K
      (try simp only [List.setIfInBounds_toArray, List.set_cons_zero, List.set_cons_succ])
      refine wpAnyM_last (i := 23) (o := ⟨_, _, _, _, _, _⟩) (by kernel_rfl) (by rfl) rfl (fun K hK => ?_)
      go_simp
      refine hK.out _ _ ?_
      clear hK K
      (try simp only [List.setIfInBounds_toArray, List.set_cons_zero, List.set_cons_succ])
      refine wpAnyM_done (by kernel_rfl) ?_ _
      go_upto_region 6 with fail
      refine wp_at (RTP w R fq s1 f) (by rw [HS1.out]; exact HRT.out) ?_
      clear HS1 HRT KC BX BB HNX HSEG d5 fr5 frR HPP e6 f0 f1 f2 f3 f4 f5 f6 p0 p1 p2 p3 p4 p5 p6 rf HF HR HG HT HN0 HN1 c0 c1 c2 c3 c4 c5 HX0 HFD
      intro V2 A
      obtain ⟨F1, R1, fp1, G1, T1, N0, N1⟩ := A
      obtain ⟨f0, f1, f2, f3, f4, f5, f6⟩ := BoxT.all7 F1
      obtain ⟨p0, p1, p2, p3, p4, p5, p6⟩ := BoxT.all7 R1
      have rf := R1.free
      have HF := hide F1
      have HR := hide R1
      have HG := hide G1
      have HT := hide T1
      have HN0 := hide N0
      have HN1 := hide N1
      obtain ⟨fd, mv, cv, kv, X, hfd⟩ := G1
      obtain ⟨c0, c1, c2, c3, c4, c5⟩ := X.cells
      have HX0 := hide X
      have HFD := hide hfd
      obtain ⟨ma, mc, rfl, hmc⟩ := X.m.shape
      have hle64 := X.le
      clear F1 R1 T1 N0 N1 X hfd
      go_wp2_with fail
      have z := (BoxT.ch7 HR.out (.int .i64 1) (.int .i64 f.ke) (.int .i64 f.ti) (.int .i64 f.va) (.int .i64 0) (.int .u64 0) (.int .u64 0)).all7
      exact bodyPost_ret (v := .tuple #[.agg #[.int .i64 1, .int .i64 f.ke, .int .i64 f.ti, .int .i64 f.va, .int .i64 0, .int .u64 0, .int .u64 0], .int .i64 0]) (by simp [results, Try.results14, go_sem, z.1, z.2.1, z.2.2.1, z.2.2.2.1, z.2.2.2.2.1, z.2.2.2.2.2.1, z.2.2.2.2.2.2]; try rfl) rfl ⟨rfl, fp1, HG.out.ch7 HN1.out (.int .i64 1) (.int .i64 f.ke) (.int .i64 f.ti) (.int .i64 f.va) (.int .i64 0) (.int .u64 0) (.int .u64 0), HT.out.ch7 (Nat.le_succ _) (.int .i64 1) (.int .i64 f.ke) (.int .i64 f.ti) (.int .i64 f.va) (.int .i64 0) (.int .u64 0) (.int .u64 0)⟩
    | false =>
      have HS1 : Hid (s1 = r) := (show _ = _ by rw [HS0.out]; unfold Gs.capt; rw [if_neg (of_decide_eq_false hct)])
      clear hct
      go_upto_region 6 with fail
      refine wp_at (RTP w R fq s1 f) (by rw [HS1.out]; exact ⟨HF.out, HR.out, fp1, HG.out, HT.out, HN0.out, HN1.out⟩) ?_
      clear HS1 e6 f0 f1 f2 f3 f4 f5 f6 p0 p1 p2 p3 p4 p5 p6 rf HF HR HG HT HN0 HN1 c0 c1 c2 c3 c4 c5 HX0 HFD
      intro V2 A
      obtain ⟨F1, R1, fp1, G1, T1, N0, N1⟩ := A
      obtain ⟨f0, f1, f2, f3, f4, f5, f6⟩ := BoxT.all7 F1
      obtain ⟨p0, p1, p2, p3, p4, p5, p6⟩ := BoxT.all7 R1
      have rf := R1.free
      have HF := hide F1
      have HR := hide R1
      have HG := hide G1
      have HT := hide T1
      have HN0 := hide N0
      have HN1 := hide N1
      obtain ⟨fd, mv, cv, kv, X, hfd⟩ := G1
      obtain ⟨c0, c1, c2, c3, c4, c5⟩ := X.cells
      have HX0 := hide X
      have HFD := hide hfd
      obtain ⟨ma, mc, rfl, hmc⟩ := X.m.shape
      have hle64 := X.le
      clear F1 R1 T1 N0 N1 X hfd
      go_wp2_with fail
      have z := (BoxT.ch7 HR.out (.int .i64 1) (.int .i64 f.ke) (.int .i64 f.ti) (.int .i64 f.va) (.int .i64 0) (.int .u64 0) (.int .u64 0)).all7
      exact bodyPost_ret (v := .tuple #[.agg #[.int .i64 1, .int .i64 f.ke, .int .i64 f.ti, .int .i64 f.va, .int .i64 0, .int .u64 0, .int .u64 0], .int .i64 0]) (by simp [results, Try.results14, go_sem, z.1, z.2.1, z.2.2.1, z.2.2.2.1, z.2.2.2.2.1, z.2.2.2.2.2.1, z.2.2.2.2.2.2]; try rfl) rfl ⟨rfl, fp1, HG.out.ch7 HN1.out (.int .i64 1) (.int .i64 f.ke) (.int .i64 f.ti) (.int .i64 f.va) (.int .i64 0) (.int .u64 0) (.int .u64 0), HT.out.ch7 (Nat.le_succ _) (.int .i64 1) (.int .i64 f.ke) (.int .i64 f.ti) (.int .i64 f.va) (.int .i64 0) (.int .u64 0) (.int .u64 0)⟩
theorem Gs.rise_set {s : Gs} {c : Nat} {y : Int} (hy : s.M[c]? = some y) (m : Int) : s.rise c m = { s with M := s.M.set c (if y < m then m else y) } := by
  unfold Gs.rise
  have hlt := lt_of_get hy
  have e : s.M.getD c 0 = y := by rw [List.getD_eq_getElem?_getD, hy]; rfl
  have e2 : s.M[c] = y := by rw [List.getElem?_eq_getElem hlt] at hy; exact Option.some.inj hy
  rw [e]
  by_cases h : m ≤ y
  · rw [if_pos h, if_neg (by omega), ← e2, List.set_getElem_self]
  · rw [if_neg h, if_pos (by omega)]
set_option maxHeartbeats 4000000 in
set_option maxRecDepth 100000 in
theorem rTake_idle {w : World} {R : Nat} {fq : Nat → Prop} {r : Gs} (h : RA w R fq r) (f : Fr) {c : Nat} (hc : c < r.M.length) (hb : r.bl (c : Int) = false) (k1 : f.kd ≠ 1) (k2 : f.kd ≠ 2) (k3 : f.kd ≠ 3) : Calls Try.prog 14 #[.pointer (some ⟨R, 0, none⟩), .int .i64 (c : Int), f.val] w fun e w' => e = .returned (.tuple #[.agg #[.int .i64 0, .int .i64 0, .int .i64 0, .int .i64 0, .int .i64 0, .int .u64 0, .int .u64 0], .int .i64 0]) ∧ ∃ fq', RA w' R fq' r ∧ FT fq fq' w w' := by
  have A0 := RTP.new h f
  clear h
  have b1 : (f.kd == 1) = false := by simpa using k1
  have b2 : (f.kd == 2) = false := by simpa using k2
  have b3 : (f.kd == 3) = false := by simpa using k3
  unfold Fr.val
  unfold Fr.ar zeroSn at A0
  go_enter Try.func14, Try.ntmps14
  go_upto_region 1 with fail
  refine wp_at (RTP w R fq r f) A0 ?_
  clear A0
  intro V A
  obtain ⟨F1, R1, fp1, G1, T1, N0, N1⟩ := A
  obtain ⟨f0, f1, f2, f3, f4, f5, f6⟩ := BoxT.all7 F1
  obtain ⟨p0, p1, p2, p3, p4, p5, p6⟩ := BoxT.all7 R1
  have rf := R1.free
  have HF := hide F1
  have HR := hide R1
  have HG := hide G1
  have HT := hide T1
  have HN0 := hide N0
  have HN1 := hide N1
  obtain ⟨fd, mv, cv, kv, X, hfd⟩ := G1
  obtain ⟨c0, c1, c2, c3, c4, c5⟩ := X.cells
  have HX0 := hide X
  have HFD := hide hfd
  obtain ⟨ma, mc, rfl, hmc⟩ := X.m.shape
  have hle64 := X.le
  clear F1 R1 T1 N0 N1 X hfd
  have hi : (c : Int) < (r.M.length : Int) := by omega
  have h3 : ¬ (r.M.length : Int) ≤ (c : Int) := by omega
  have HBL := hide (rBlocked_any HG.out (c : Int))
  rw [hb] at HBL
  obtain ⟨b, hbc⟩ := get_of_lt (show c < r.co.length by rw [HX0.out.len]; exact hc)
  obtain ⟨ca, cc, rfl, hcc⟩ := HX0.out.c.shape
  obtain ⟨cb, co, rfl, _, e6⟩ := seg_bool HX0.out.c.lseg hbc
  have hic : (c : Int) < (r.co.length : Int) := by rw [HX0.out.len]; omega
  have h64c : r.co.length ≤ 64 := by rw [HX0.out.len]; exact hle64
  have HCT : Hid ((decide (r.un ≠ 0) && r.ov && !b) = decide (r.un ≠ 0 ∧ r.ov = true ∧ r.co[c]? = some false)) := (show _ = _ by rw [hbc]; cases r.ov <;> cases b <;> simp)
  clear hbc
  go_upto_region 3 with (go_at_call 24; refine HBL.out.mono ?_; rintro e w1 ⟨rfl, rfl⟩)
  clear HBL
  go_cut [8] from 27 to 47 (fun v8 wx => v8 = .bool (decide (r.un ≠ 0) && r.ov && !b) ∧ wx = V)
  case first =>
    generalize r.co.length = nn at *
    generalize r.un = un at *
    by_cases h0 : un = 0
    · subst h0
      go_wp2_with fail
      go_meet
      exact ⟨by simp, rfl⟩
    · cases hov : r.ov with
      | false =>
        rw [hov] at c3
        go_wp2_with fail
        go_meet
        exact ⟨by simp [hov], rfl⟩
      | true =>
        rw [hov] at c3
        go_wp2_with fail
        go_meet
        exact ⟨by simp [h0, hov], rfl⟩
  case rest =>
    obtain ⟨hv8, hwx⟩ := hcut
    rw [HCT.out] at hv8
    have hwx2 := hwx.symm
    subst hwx2
    subst hv8
    clear hwx
    cases hct : decide (r.un ≠ 0 ∧ r.ov = true ∧ r.co[c]? = some false) with
    | true =>
      go_upto_region 6 with fail
      refine wp_at (RTP w R fq r f) ⟨HF.out, HR.out, fp1, HG.out, HT.out, HN0.out, HN1.out⟩ ?_
      clear hct e6 f0 f1 f2 f3 f4 f5 f6 p0 p1 p2 p3 p4 p5 p6 rf HF HR HG HT HN0 HN1 c0 c1 c2 c3 c4 c5 HX0 HFD
      intro V2 A
      obtain ⟨F1, R1, fp1, G1, T1, N0, N1⟩ := A
      obtain ⟨f0, f1, f2, f3, f4, f5, f6⟩ := BoxT.all7 F1
      obtain ⟨p0, p1, p2, p3, p4, p5, p6⟩ := BoxT.all7 R1
      have rf := R1.free
      have HF := hide F1
      have HR := hide R1
      have HG := hide G1
      have HT := hide T1
      have HN0 := hide N0
      have HN1 := hide N1
      obtain ⟨fd, mv, cv, kv, X, hfd⟩ := G1
      obtain ⟨c0, c1, c2, c3, c4, c5⟩ := X.cells
      have HX0 := hide X
      have HFD := hide hfd
      obtain ⟨ma, mc, rfl, hmc⟩ := X.m.shape
      have hle64 := X.le
      clear F1 R1 T1 N0 N1 X hfd
      go_wp2_with fail
      have z := (BoxT.ch7 HR.out (.int .i64 0) (.int .i64 0) (.int .i64 0) (.int .i64 0) (.int .i64 0) (.int .u64 0) (.int .u64 0)).all7
      exact bodyPost_ret (v := .tuple #[.agg #[.int .i64 0, .int .i64 0, .int .i64 0, .int .i64 0, .int .i64 0, .int .u64 0, .int .u64 0], .int .i64 0]) (by simp [results, Try.results14, go_sem, z.1, z.2.1, z.2.2.1, z.2.2.2.1, z.2.2.2.2.1, z.2.2.2.2.2.1, z.2.2.2.2.2.2]; try rfl) rfl ⟨rfl, fp1, HG.out.ch7 HN1.out (.int .i64 0) (.int .i64 0) (.int .i64 0) (.int .i64 0) (.int .i64 0) (.int .u64 0) (.int .u64 0), HT.out.ch7 (Nat.le_succ _) (.int .i64 0) (.int .i64 0) (.int .i64 0) (.int .i64 0) (.int .i64 0) (.int .u64 0) (.int .u64 0)⟩
    | false =>
      go_upto_region 6 with fail
      refine wp_at (RTP w R fq r f) ⟨HF.out, HR.out, fp1, HG.out, HT.out, HN0.out, HN1.out⟩ ?_
      clear hct e6 f0 f1 f2 f3 f4 f5 f6 p0 p1 p2 p3 p4 p5 p6 rf HF HR HG HT HN0 HN1 c0 c1 c2 c3 c4 c5 HX0 HFD
      intro V2 A
      obtain ⟨F1, R1, fp1, G1, T1, N0, N1⟩ := A
      obtain ⟨f0, f1, f2, f3, f4, f5, f6⟩ := BoxT.all7 F1
      obtain ⟨p0, p1, p2, p3, p4, p5, p6⟩ := BoxT.all7 R1
      have rf := R1.free
      have HF := hide F1
      have HR := hide R1
      have HG := hide G1
      have HT := hide T1
      have HN0 := hide N0
      have HN1 := hide N1
      obtain ⟨fd, mv, cv, kv, X, hfd⟩ := G1
      obtain ⟨c0, c1, c2, c3, c4, c5⟩ := X.cells
      have HX0 := hide X
      have HFD := hide hfd
      obtain ⟨ma, mc, rfl, hmc⟩ := X.m.shape
      have hle64 := X.le
      clear F1 R1 T1 N0 N1 X hfd
      go_wp2_with fail
      have z := (BoxT.ch7 HR.out (.int .i64 0) (.int .i64 0) (.int .i64 0) (.int .i64 0) (.int .i64 0) (.int .u64 0) (.int .u64 0)).all7
      exact bodyPost_ret (v := .tuple #[.agg #[.int .i64 0, .int .i64 0, .int .i64 0, .int .i64 0, .int .i64 0, .int .u64 0, .int .u64 0], .int .i64 0]) (by simp [results, Try.results14, go_sem, z.1, z.2.1, z.2.2.1, z.2.2.2.1, z.2.2.2.2.1, z.2.2.2.2.2.1, z.2.2.2.2.2.2]; try rfl) rfl ⟨rfl, fp1, HG.out.ch7 HN1.out (.int .i64 0) (.int .i64 0) (.int .i64 0) (.int .i64 0) (.int .i64 0) (.int .u64 0) (.int .u64 0), HT.out.ch7 (Nat.le_succ _) (.int .i64 0) (.int .i64 0) (.int .i64 0) (.int .i64 0) (.int .i64 0) (.int .u64 0) (.int .u64 0)⟩
set_option maxHeartbeats 4000000 in
set_option maxRecDepth 100000 in
theorem rTake_bar {w : World} {R : Nat} {fq : Nat → Prop} {r : Gs} (h : RA w R fq r) (f : Fr) {c : Nat} (hc : c < r.M.length) (hb : r.bl (c : Int) = false) (hSm : r.Sm) (k3 : f.kd = 3) {x : Sn} (hx : x = r.barS c f.n f.ov) : Calls Try.prog 14 #[.pointer (some ⟨R, 0, none⟩), .int .i64 (c : Int), f.val] w fun e w' => e = .returned (.tuple #[x.val, .int .i64 0]) ∧ ∃ fq', RA w' R fq' (r.bar c f.n f.ov) ∧ FT fq fq' w w' := by
  have A0 := RTP.new h f
  clear h
  obtain ⟨xkd, xke, xti, xva, xma, xn, xfu⟩ := x
  unfold Sn.val
  have HX := hide hx
  clear hx
  have b3 : (f.kd == 3) = true := by simpa using k3
  have b1 : (f.kd == 1) = false := by rw [k3]; rfl
  have b2 : (f.kd == 2) = false := by rw [k3]; rfl
  have HK := hide k3
  clear k3
  unfold Fr.val
  unfold Fr.ar zeroSn at A0
  go_enter Try.func14, Try.ntmps14
  go_upto_region 1 with fail
  refine wp_at (RTP w R fq r f) A0 ?_
  clear A0
  intro V A
  obtain ⟨F1, R1, fp1, G1, T1, N0, N1⟩ := A
  obtain ⟨f0, f1, f2, f3, f4, f5, f6⟩ := BoxT.all7 F1
  obtain ⟨p0, p1, p2, p3, p4, p5, p6⟩ := BoxT.all7 R1
  have rf := R1.free
  have HF := hide F1
  have HR := hide R1
  have HG := hide G1
  have HT := hide T1
  have HN0 := hide N0
  have HN1 := hide N1
  obtain ⟨fd, mv, cv, kv, X, hfd⟩ := G1
  obtain ⟨c0, c1, c2, c3, c4, c5⟩ := X.cells
  have HX0 := hide X
  have HFD := hide hfd
  obtain ⟨ma, mc, rfl, hmc⟩ := X.m.shape
  have hle64 := X.le
  clear F1 R1 T1 N0 N1 X hfd
  have hi : (c : Int) < (r.M.length : Int) := by omega
  have h3 : ¬ (r.M.length : Int) ≤ (c : Int) := by omega
  have HBL := hide (rBlocked_any HG.out (c : Int))
  rw [hb] at HBL
  obtain ⟨b, hbc⟩ := get_of_lt (show c < r.co.length by rw [HX0.out.len]; exact hc)
  obtain ⟨ca, cc, rfl, hcc⟩ := HX0.out.c.shape
  obtain ⟨cb, co, rfl, _, e6⟩ := seg_bool HX0.out.c.lseg hbc
  have hic : (c : Int) < (r.co.length : Int) := by rw [HX0.out.len]; omega
  have h64c : r.co.length ≤ 64 := by rw [HX0.out.len]; exact hle64
  have HCT : Hid ((decide (r.un ≠ 0) && r.ov && !b) = decide (r.un ≠ 0 ∧ r.ov = true ∧ r.co[c]? = some false)) := (show _ = _ by rw [hbc]; cases r.ov <;> cases b <;> simp)
  clear hbc
  go_upto_region 3 with (go_at_call 24; refine HBL.out.mono ?_; rintro e w1 ⟨rfl, rfl⟩)
  clear HBL
  go_cut [8] from 27 to 47 (fun v8 wx => v8 = .bool (decide (r.un ≠ 0) && r.ov && !b) ∧ wx = V)
  case first =>
    generalize r.co.length = nn at *
    generalize r.un = un at *
    by_cases h0 : un = 0
    · subst h0
      go_wp2_with fail
      go_meet
      exact ⟨by simp, rfl⟩
    · cases hov : r.ov with
      | false =>
        rw [hov] at c3
        go_wp2_with fail
        go_meet
        exact ⟨by simp [hov], rfl⟩
      | true =>
        rw [hov] at c3
        go_wp2_with fail
        go_meet
        exact ⟨by simp [h0, hov], rfl⟩
  case rest =>
    obtain ⟨hv8, hwx⟩ := hcut
    rw [HCT.out] at hv8
    have hwx2 := hwx.symm
    subst hwx2
    subst hv8
    clear hwx
    cases hct : decide (r.un ≠ 0 ∧ r.ov = true ∧ r.co[c]? = some false) with
    | true =>
      go_upto_region 6 with fail
      refine wp_at (RTP w R fq r f) ⟨HF.out, HR.out, fp1, HG.out, HT.out, HN0.out, HN1.out⟩ ?_
      clear hct e6 f0 f1 f2 f3 f4 f5 f6 p0 p1 p2 p3 p4 p5 p6 rf HF HR HG HT HN0 HN1 c0 c1 c2 c3 c4 c5 HX0 HFD
      intro V2 A
      obtain ⟨F1, R1, fp1, G1, T1, N0, N1⟩ := A
      obtain ⟨f0, f1, f2, f3, f4, f5, f6⟩ := BoxT.all7 F1
      obtain ⟨p0, p1, p2, p3, p4, p5, p6⟩ := BoxT.all7 R1
      have rf := R1.free
      have HF := hide F1
      have HR := hide R1
      have HG := hide G1
      have HT := hide T1
      have HN0 := hide N0
      have HN1 := hide N1
      obtain ⟨fd, mv, cv, kv, X, hfd⟩ := G1
      obtain ⟨c0, c1, c2, c3, c4, c5⟩ := X.cells
      have HX0 := hide X
      have HFD := hide hfd
      obtain ⟨ma, mc, rfl, hmc⟩ := X.m.shape
      have hle64 := X.le
      clear F1 R1 T1 N0 N1 X hfd
      have HBA := hide (rBarrier_s HG.out hSm hc f (x := ⟨xkd, xke, xti, xva, xma, xn, xfu⟩) (s2 := r.bar c f.n f.ov) HX.out rfl)
      simp only [Sn.val, Fr.val] at HBA
      go_wp2_with (go_at_call 33; refine HBA.out.mono ?_; rintro e w3 ⟨rfl, fp3, g3, t3⟩; have A3 := hide (RTP.step HF.out HR.out HT.out HN0.out HN1.out g3 t3); obtain ⟨-, R3, -⟩ := RTP.step HF.out HR.out HT.out HN0.out HN1.out g3 t3; clear p0 p1 p2 p3 p4 p5 p6 rf; obtain ⟨p0, p1, p2, p3, p4, p5, p6⟩ := BoxT.all7 R3; have rf := R3.free; clear g3 t3 R3)
      clear HF HR HG HT HN0 HN1
      obtain ⟨-, HR, fp1, HG, HT, -, HN1⟩ := A3.out
      have HR := hide HR
      have HG := hide HG
      have HT := hide HT
      have HN1 := hide HN1
      have z := (BoxT.ch7 HR.out (.int .i64 xkd) (.int .i64 xke) (.int .i64 xti) (.int .i64 xva) (.int .i64 xma) (.int .u64 xn) (.int .u64 xfu)).all7
      exact bodyPost_ret (v := .tuple #[.agg #[.int .i64 xkd, .int .i64 xke, .int .i64 xti, .int .i64 xva, .int .i64 xma, .int .u64 xn, .int .u64 xfu], .int .i64 0]) (by simp [results, Try.results14, go_sem, z.1, z.2.1, z.2.2.1, z.2.2.2.1, z.2.2.2.2.1, z.2.2.2.2.2.1, z.2.2.2.2.2.2]; try rfl) rfl ⟨rfl, fp1, HG.out.ch7 HN1.out (.int .i64 xkd) (.int .i64 xke) (.int .i64 xti) (.int .i64 xva) (.int .i64 xma) (.int .u64 xn) (.int .u64 xfu), HT.out.ch7 (Nat.le_succ _) (.int .i64 xkd) (.int .i64 xke) (.int .i64 xti) (.int .i64 xva) (.int .i64 xma) (.int .u64 xn) (.int .u64 xfu)⟩
    | false =>
      go_upto_region 6 with fail
      refine wp_at (RTP w R fq r f) ⟨HF.out, HR.out, fp1, HG.out, HT.out, HN0.out, HN1.out⟩ ?_
      clear hct e6 f0 f1 f2 f3 f4 f5 f6 p0 p1 p2 p3 p4 p5 p6 rf HF HR HG HT HN0 HN1 c0 c1 c2 c3 c4 c5 HX0 HFD
      intro V2 A
      obtain ⟨F1, R1, fp1, G1, T1, N0, N1⟩ := A
      obtain ⟨f0, f1, f2, f3, f4, f5, f6⟩ := BoxT.all7 F1
      obtain ⟨p0, p1, p2, p3, p4, p5, p6⟩ := BoxT.all7 R1
      have rf := R1.free
      have HF := hide F1
      have HR := hide R1
      have HG := hide G1
      have HT := hide T1
      have HN0 := hide N0
      have HN1 := hide N1
      obtain ⟨fd, mv, cv, kv, X, hfd⟩ := G1
      obtain ⟨c0, c1, c2, c3, c4, c5⟩ := X.cells
      have HX0 := hide X
      have HFD := hide hfd
      obtain ⟨ma, mc, rfl, hmc⟩ := X.m.shape
      have hle64 := X.le
      clear F1 R1 T1 N0 N1 X hfd
      have HBA := hide (rBarrier_s HG.out hSm hc f (x := ⟨xkd, xke, xti, xva, xma, xn, xfu⟩) (s2 := r.bar c f.n f.ov) HX.out rfl)
      simp only [Sn.val, Fr.val] at HBA
      go_wp2_with (go_at_call 33; refine HBA.out.mono ?_; rintro e w3 ⟨rfl, fp3, g3, t3⟩; have A3 := hide (RTP.step HF.out HR.out HT.out HN0.out HN1.out g3 t3); obtain ⟨-, R3, -⟩ := RTP.step HF.out HR.out HT.out HN0.out HN1.out g3 t3; clear p0 p1 p2 p3 p4 p5 p6 rf; obtain ⟨p0, p1, p2, p3, p4, p5, p6⟩ := BoxT.all7 R3; have rf := R3.free; clear g3 t3 R3)
      clear HF HR HG HT HN0 HN1
      obtain ⟨-, HR, fp1, HG, HT, -, HN1⟩ := A3.out
      have HR := hide HR
      have HG := hide HG
      have HT := hide HT
      have HN1 := hide HN1
      have z := (BoxT.ch7 HR.out (.int .i64 xkd) (.int .i64 xke) (.int .i64 xti) (.int .i64 xva) (.int .i64 xma) (.int .u64 xn) (.int .u64 xfu)).all7
      exact bodyPost_ret (v := .tuple #[.agg #[.int .i64 xkd, .int .i64 xke, .int .i64 xti, .int .i64 xva, .int .i64 xma, .int .u64 xn, .int .u64 xfu], .int .i64 0]) (by simp [results, Try.results14, go_sem, z.1, z.2.1, z.2.2.1, z.2.2.2.1, z.2.2.2.2.1, z.2.2.2.2.2.1, z.2.2.2.2.2.2]; try rfl) rfl ⟨rfl, fp1, HG.out.ch7 HN1.out (.int .i64 xkd) (.int .i64 xke) (.int .i64 xti) (.int .i64 xva) (.int .i64 xma) (.int .u64 xn) (.int .u64 xfu), HT.out.ch7 (Nat.le_succ _) (.int .i64 xkd) (.int .i64 xke) (.int .i64 xti) (.int .i64 xva) (.int .i64 xma) (.int .u64 xn) (.int .u64 xfu)⟩
end Go.Proofs.Ytmipgfobggbndaa
