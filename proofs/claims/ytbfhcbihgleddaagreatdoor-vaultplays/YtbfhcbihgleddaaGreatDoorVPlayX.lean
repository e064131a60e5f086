/-
  The law's put in a script without crashes.
-/
import Derived.Test.YtbfhcbihgleddaaGreatDoorVPlayU
namespace Go.Proofs.YtbfhcbihgleddaaGreatDoor
open Go.RowKit

theorem SnsIn.farW {w w' : World} {v : Value} {xs : List SnV} (h : SnsIn w.heap.size w v xs) (hb : Below w.heap.size w w') : SnsIn w'.heap.size w' v xs := by
  have := h.below hb
  exact ⟨this.row.mono hb.size, fun x hx => (this.each x hx).mono hb.size, this.pos⟩
theorem flat_at (ys : List OnV) : ∀ (j : Nat) (u : Value), (ys.flatMap OnV.cs)[j]? = some u → ∃ i x m, ys[i]? = some x ∧ (OnV.cs x)[m]? = some u ∧ j = i * 3 + m := by
  induction ys with
  | nil => intro j u h; simp at h
  | cons y r ih =>
    intro j u h
    rw [List.flatMap_cons] at h
    by_cases hj : j < 3
    · rw [List.getElem?_append_left (by rw [OnV.cs_len]; exact hj)] at h
      exact ⟨0, y, j, by simp, h, by omega⟩
    · rw [List.getElem?_append_right (by rw [OnV.cs_len]; omega), OnV.cs_len] at h
      obtain ⟨i, x, m, h1, h2, h3⟩ := ih _ u h
      exact ⟨i + 1, x, m, by simpa using h1, h2, by omega⟩
theorem run_load0 (a : Addr) (w : World) : (loadCells a 0).run Tryz.prog w = .ok #[] w := by
  simp [loadCells, loadCellsFrom]
theorem run_lsegO {w : World} (ty base : Nat) {B : Nat} {v2 : Value} {ys : List OnV} (hseg : LSeg 3 OnV.cs B w v2 ys) (hl : ys.length ≤ 1000000) (hbase : base ≤ w.heap.size) :
    ∃ v' w', (Builtin.append_ #[50, 50] ty #[.slice none 0 0, v2]).run Tryz.prog w = .ok v' w' ∧ OwnL 59 3 OnV.cs base w' v' ys ∧ w.grownBy w' none := by
  obtain ⟨i0, hi, hz0, hz1, hz2⟩ := info_parts Tryz.info59'
  obtain ⟨ao, cap, rfl, hcap, hs⟩ := hseg
  by_cases hy : ys = []
  · subst hy
    refine ⟨.slice none 0 0, w, ?_, OwnL.nil _ _ _ _ _, ⟨rfl, rfl, rfl, Nat.le_refl _, fun _ _ _ => rfl⟩⟩
    cases ao <;> simp [Builtin.append_, run_underlying Tryz.underlying50, sizeOf, typeInfo, hi, Builtin.lenOf, Builtin.firstCells, run_load0]
  · rcases hs with hs | ⟨b, off, rfl, hb, hc⟩
    · exact absurd hs hy
    · obtain ⟨v', w', r1, r2, r3, _, r4⟩ := run_append_own_at (P := Tryz.prog) w base 50 ty 59 i0 (.agg #[.int .u64 0, .int .u64 0, .slice none 0 0]) 3 40 Tryz.underlying50 hi hz0 hz1 hz2 rfl (by decide) (.slice none 0 0) 0 [] (World.ownsRow_nil _ _ _ _) ⟨b, off, none⟩ ys.length cap (ys.flatMap OnV.cs) (flat_size OnV.cs_len ys) (fun j u hj => by
        obtain ⟨i, x, m, h1, h2, h3⟩ := flat_at ys j u hj
        rw [add_plain2, h3, ← Nat.add_assoc]
        exact hc i x h1 m u h2) (fun u hu => by
        simp only [List.mem_flatMap] at hu
        obtain ⟨y, _, hu⟩ := hu
        exact OnV.cs_one y u hu) (by unfold maxLen; omega) (by omega) hbase
      refine ⟨v', w', r1, ?_, r3⟩
      show w'.ownsRow base 59 3 v' ys.length (ys.flatMap OnV.cs)
      simpa using r2
theorem step_lsegO {w : World} {ops : Array Oper} {o : Oper} {a : Act} {K : Act → World → Prop} {Q : Exit → Act → World → Prop} {E : Prop} (hgd : o.guard = none) (x : Operand)
    (ho : o.op = .call { callee := .builtin .append, args := #[.const (.slice none 0 0), x], argTypes := #[50, 50] }) (base : Nat)
    (B : Nat) (v2 : Value) (ys : List OnV) (hx : a.eval x = v2) (hseg : LSeg 3 OnV.cs B w v2 ys) (hl : ys.length ≤ 1000000) (hbase : base ≤ w.heap.size)
    (h : ∀ v' w', OwnL 59 3 OnV.cs base w' v' ys → w.grownBy w' none → K (a.put o.dst v') w') : if Region.wanted o (yielded ops a.tmps) = true then Oper.wp Tryz.prog o a w K Q else E := by
  have hw : Region.wanted o (yielded ops a.tmps) = true := by simp [Region.wanted, hgd]
  rw [if_pos hw]
  obtain ⟨v', w', hr, h2, h3⟩ := run_lsegO o.type base hseg hl hbase
  have hs : a.eval (.const (.slice none 0 0)) = .slice none 0 0 := rfl
  unfold Oper.wp execOp
  simp only [ho, resolve, invoke, builtin, Sem.run_bind, Sem.run_pure, Result.andThen_ok, List.map_toArray, List.map_cons, List.map_nil, hs, hx, hr]
  exact h v' w' h2 h3
theorem Row.monoO {w : World} {base base' : Nat} {v : Value} {os : List OnV} (h : Row 59 3 OnV.cs base w v os) (hb : base' ≤ base) : Row 59 3 OnV.cs base' w v os := by
  rcases h with h | ⟨g, off, cap, cur, e, h2, h3⟩
  · exact .inl h
  · exact .inr ⟨g, off, cap, cur, e, by omega, h3⟩
theorem and7 (N : Int) : ∃ ep : Nat, bits .and .i64 N 7 = (ep : Int) ∧ ep < 8 := by
  have h : (BitVec.ofInt 64 N &&& BitVec.ofInt 64 7).toNat ≤ 7 := by
    rw [BitVec.toNat_and]
    exact Nat.le_trans Nat.and_le_right (by decide)
  refine ⟨(BitVec.ofInt 64 N &&& BitVec.ofInt 64 7).toNat, ?_, by omega⟩
  have e : bits .and .i64 N 7 = IntKind.i64.wrap ((BitVec.ofInt 64 N &&& BitVec.ofInt 64 7).toNat : Int) := rfl
  rw [e, IntKind.wrap_i64]
  omega
set_option maxHeartbeats 16000000 in
set_option maxRecDepth 100000 in
theorem put_w {w0 w : World} {B k V b nf kp : Nat} {p : Pd} {X : List Fi} {os : List OnV} {vt vw : Value} {th : List SpV} {la : Option Addr} {lc top : Nat} (h : LW w0 w B k V b nf kp p X os vt vw th la lc top) (hg : Glob w0) (hos : os.length ≤ 300) (hkp : kp ≤ 1000) (hkp1 : 1 ≤ kp) (htop : top ≤ 1000000) (hnf : nf + 6000 ≤ 1000000)
    (wh N : Int) (hN : I64 N) (sa ka ba : Option Addr) (sc kn kc bn bc : Nat) (l : List SnV) (hin : SnsIn w0.heap.size w0 (.slice sa l.length sc) l) (hlo : ∀ x ∈ l, x.s.ok) (hw : (l.map wSn).sum ≤ 20000) :
    Calls Tryz.prog 43 #[.pointer (some ⟨B, 0, none⟩), .agg #[.int .i64 wh, .int .i64 N, .slice sa l.length sc, .slice ka kn kc, .slice ba bn bc]] w fun e w' => e = .returned (.tuple #[]) ∧ ∃ nf' p' os' vt' vw' th' la' lc' top', nf' ≤ nf + 6000 ∧ os'.length ≤ os.length + 1 ∧ top' ≤ top + 3 ∧ LW w0 w' B k V b nf' kp p' X os' vt' vw' th' la' lc' top' := by
  have hb1 : Below w.heap.size w (w.alloc (.cells #[.int .i64 wh, .int .i64 N, .slice sa l.length sc, .slice ka kn kc, .slice ba bn bc] 33)) := (Below.refl _ _).alloc (Nat.le_refl _) _
  have H1 := hide (h.below hb1)
  have X1 := hide (BoxT.new 33 w #[.int .i64 wh, .int .i64 N, .slice sa l.length sc, .slice ka kn kc, .slice ba bn bc])
  have hbB : B < w.heap.size := h.box.lt
  have c5 : (w.alloc (.cells #[.int .i64 wh, .int .i64 N, .slice sa l.length sc, .slice ka kn kc, .slice ba bn bc] 33)).cell? ⟨B, 5, none⟩ = some (.int .u64 (top : Int)) := by rw [H1.out.box.cellAt]; rfl
  have s1 : (w.alloc (.cells #[.int .i64 wh, .int .i64 N, .slice sa l.length sc, .slice ka kn kc, .slice ba bn bc] 33)).cell? ⟨w.heap.size, 1, none⟩ = some (.int .i64 N) := by rw [X1.out.cellAt]; rfl
  have hl2 : l.length ≤ 2000 := by have := len_w l; omega
  have HIN := hide hin
  have HLO := hide hlo
  have HW := hide hw
  have hpl := hide (fun w' => Place_any N 3 w' hN (by decide) (by decide))
  obtain ⟨ep, hep, hep8⟩ := and7 N
  have hepc : IntKind.u64.wrap (ep : Int) = (ep : Int) := wu64 (by omega) (by omega)
  have htw : IntKind.u64.wrap ((top : Int) + 1) = (top : Int) + 1 := wu64 (by omega) (by omega)
  clear h hin hlo hw hb1
  go_enter Tryz.func43, Tryz.ntmps43
  go_wp2_with fail
  go_region_held3 (fun w' => w'.cell? ⟨B, 5, none⟩ = some (.int .u64 (top : Int)) ∧ w'.cell? ⟨w.heap.size, 1, none⟩ = some (.int .i64 N)) (first | go_keep | exact ⟨c5, s1⟩) (first | (go_at_call 20; refine (hpl.out _).mono ?_; rintro e w2 ⟨j, rfl, hj, hw2⟩; have hjc : IntKind.u64.wrap (j : Int) = (j : Int) := wu64 (by omega) (by omega); have hnw : IntKind.u64.wrap ((top : Int) + 1 + (j : Int)) = ((top + 1 + j : Nat) : Int) := by { rw [wu64 (by omega) (by omega)]; push_cast; rfl }; subst hw2))
  obtain ⟨n, hn⟩ : ∃ n : Nat, (top : Int) + 1 + (j : Int) = (n : Int) := ⟨top + 1 + j, by push_cast; rfl⟩
  rw [hn]
  have hn1 : top < n := by omega
  have hn3 : n ≤ top + 3 := by omega
  have hn2 : n < 18446744073709551616 := by omega
  clear hnw hn hjc hj
  have B1 : Hid (Below (w.alloc (.cells #[.int .i64 wh, .int .i64 N, .slice sa l.length sc, .slice ka kn kc, .slice ba bn bc] 33)).heap.size (w.alloc (.cells #[.int .i64 wh, .int .i64 N, .slice sa l.length sc, .slice ka kn kc, .slice ba bn bc] 33)) (w.alloc (.cells #[.int .i64 wh, .int .i64 N, .slice sa l.length sc, .slice ka kn kc, .slice ba bn bc] 33)).drew) := (Below.refl _ _).drew
  clear c5 s1
  go_wp2_with fail
  go_loopw [5, 6] (fun bv iv wr => ∃ (i : Nat) (bad : Int), i ≤ l.length ∧ bv = .int .i64 bad ∧ iv = .int .i64 (i : Int) ∧ Hid (Below (w.alloc (.cells #[.int .i64 wh, .int .i64 N, .slice sa l.length sc, .slice ka kn kc, .slice ba bn bc] 33)).heap.size (w.alloc (.cells #[.int .i64 wh, .int .i64 N, .slice sa l.length sc, .slice ka kn kc, .slice ba bn bc] 33)) wr) ∧ Hid ((bad = 0 ∧ ∀ x ∈ l.take i, sEr x.s = 0) ∨ (bad ≠ 0 ∧ bad = fstEr (l.map SnV.s)))) (fun _ iv _ => l.length - (intOf iv).toNat)
  case atStart => exact ⟨0, 0, Nat.zero_le _, rfl, rfl, B1.out, .inl ⟨rfl, fun x hx => by cases hx⟩⟩
  case round =>
    clear B1
    obtain ⟨i, bad, hi, rfl, rfl, HB1, HBD⟩ := hrel
    have s2 : wr.cell? ⟨w.heap.size, 2, none⟩ = some (.slice sa l.length sc) := by rw [(X1.out.belowT HB1.out).cellAt]; rfl
    by_cases hgo : i < l.length ∧ bad = 0
    · obtain ⟨hlt, rfl⟩ := hgo
      have hlti : (i : Int) < (l.length : Int) := by omega
      obtain ⟨z, hz⟩ : ∃ z, l[i]? = some z := ⟨_, List.getElem?_eq_getElem hlt⟩
      have hsw : Below w0.heap.size w0 wr := (H1.out.below HB1.out).at_.st.since
      have hzs : SnSeg wr.heap.size wr (.slice z.am z.s.marks.length z.cm) (.slice z.ap z.s.panes.length z.cp) (.slice z.ac z.s.outs.length z.cc) z.s := ((HIN.out.each z (List.mem_of_getElem? hz)).below hsw).mono hsw.size
      have hrf := hide (refSnap_any z.s _ _ _ wr (HIN.out.pos z (List.mem_of_getElem? hz)) hzs)
      obtain ⟨gz, oz, ez, hgz, hcz⟩ := HIN.out.row.at_ hz
      have cz : ∀ j u, (SnV.cs z)[j]? = some u → wr.cell? ⟨gz, oz + i * 6 + j, none⟩ = some u := fun j u hu => (hsw.cell (p := ⟨gz, oz + i * 6 + j, none⟩) hgz).trans (hcz i z hz j u hu)
      subst ez
      have z0 := cz 0 _ rfl
      have z1 := cz 1 _ rfl
      have z2 := cz 2 _ rfl
      have z3 := cz 3 _ rfl
      have z4 := cz 4 _ rfl
      have z5 := cz 5 _ rfl
      simp only [Nat.add_zero] at z0
      have HND : Hid (sEr z.s ≠ 0 → sEr z.s = fstEr (l.map SnV.s)) := fun hne => by
        rcases HBD.out with ⟨_, hall⟩ | ⟨h0, _⟩
        · have e : l.map SnV.s = (l.take i).map SnV.s ++ z.s :: (l.drop (i + 1)).map SnV.s := by
            have hlz : l = l.take i ++ z :: l.drop (i + 1) := by
              obtain ⟨h1, h2⟩ := List.getElem?_eq_some_iff.1 hz
              rw [← h2, ← List.drop_eq_getElem_cons h1, List.take_append_drop]
            conv => lhs; rw [hlz]
            rw [List.map_append, List.map_cons]
          rw [e, fstEr_app (fun s hs => by obtain ⟨x, hx, rfl⟩ := List.mem_map.1 hs; exact hall x hx) hne]
        · exact absurd rfl h0
      have HNZ : Hid (sEr z.s = 0 → ∀ x ∈ l.take (i + 1), sEr x.s = 0) := fun h0 x hx => by
        rcases HBD.out with ⟨_, hall⟩ | ⟨h1, _⟩
        · obtain ⟨h1, h2⟩ := List.getElem?_eq_some_iff.1 hz
          rw [List.take_succ_eq_append_getElem h1, List.mem_append, List.mem_singleton] at hx
          rcases hx with hx | hx
          · exact hall x hx
          · rw [hx, h2]; exact h0
        · exact absurd rfl h1
      clear cz hcz hzs hz hsw
      obtain ⟨erz, herz⟩ : ∃ e, sEr z.s = e := ⟨_, rfl⟩
      rw [herz] at hrf HND HNZ
      clear herz
      as_aux_lemma =>
      go_wp2_with (go_at_call 74; refine hrf.out.mono ?_; rintro e w3 ⟨v3, rfl, -, b3⟩; have B3 := hide (HB1.out.trans (b3.mono HB1.out.size)); clear b3)
      go_roundw
      case rel =>
        refine ⟨i + 1, erz, by omega, rfl, by go_num, B3.out, ?_⟩
        by_cases h0 : erz = 0
        · exact .inl ⟨h0, HNZ.out h0⟩
        · exact .inr ⟨h0, HND.out h0⟩
      case measure => simp [intOf]; omega
    · have hbad : bad = fstEr (l.map SnV.s) := by
        rcases HBD.out with ⟨h0, hall⟩ | ⟨_, h1⟩
        · have hie : i = l.length := by
            rcases Nat.lt_or_ge i l.length with h1 | h1
            · exact absurd ⟨h1, h0⟩ hgo
            · omega
          rw [hie, List.take_length] at hall
          rw [h0]
          exact (fstEr_zero.2 fun s hs => by obtain ⟨x, hx, rfl⟩ := List.mem_map.1 hs; exact hall x hx).symm
        · exact h1
      have hng : (decide ((i : Int) < (l.length : Int)) && decide (bad = 0)) = false := by
        by_cases h1 : i < l.length
        · have : bad ≠ 0 := fun h => hgo ⟨h1, h⟩
          simp [this]
        · simp; omega
      have H2 := hide (H1.out.below HB1.out)
      have X2 := hide (X1.out.belowT HB1.out)
      have HBAD := hide hbad
      clear HBD hbad H1 X1
      have hcase : (¬ (i : Int) < (l.length : Int)) ∨ ((i : Int) < (l.length : Int) ∧ (bad == 0) = false) := by
        by_cases h1 : i < l.length
        · exact .inr ⟨by omega, by have : bad ≠ 0 := fun h => hgo ⟨h1, h⟩; simp [this]⟩
        · exact .inl (by omega)
      have hput : Hid (∀ w', Below wr.heap.size wr w' → Calls Tryz.prog 13 #[.pointer (some ⟨V, 0, none⟩), .int .u64 (n : Int), .int .u64 (ep : Int), .slice sa l.length sc] w' fun e w'' => ∃ er p' vt' vw' th', e = .returned (.int .i64 er) ∧ VAt w0 w'' V k b (nf + 3000) p' (kp : Int) vt' vw' th' [] ∧ BoxT 52 w'' B (wld k (.pointer (some ⟨V, 0, none⟩)) (kp : Int) (.slice la os.length lc) (.slice none 0 0) (.int .u64 (top : Int)) (.bool false) (.bool false) (.bool true)) ∧ BoxT 33 w'' w.heap.size #[.int .i64 wh, .int .i64 N, .slice sa l.length sc, .slice ka kn kc, .slice ba bn bc] ∧ Row 59 3 OnV.cs w0.heap.size w'' (.slice la os.length lc) os ∧
          ((fstEr (l.map SnV.s) ≠ 0 ∧ er = fstEr (l.map SnV.s) ∧ Has p' (X ++ FX (os.map OnV.sp)) ∧ th'.map SpV.s = os.map OnV.sp) ∨
           (fstEr (l.map SnV.s) = 0 ∧ er = 22 ∧ Has p' (X ++ FX (os.map OnV.sp)) ∧ th'.map SpV.s = os.map OnV.sp) ∨
           (fstEr (l.map SnV.s) = 0 ∧ er = 0 ∧ ∀ a c, Has p' (X ++ FX ((nowO kp os ⟨n, ep, a, c, l⟩).map OnV.sp)) ∧ th'.map SpV.s = (nowO kp os ⟨n, ep, a, c, l⟩).map OnV.sp))) := fun w' hb => by
        have h2 := H2.out.below hb
        refine (h2.put hg (by omega) hkp (HIN.out.farW h2.at_.st.since) HLO.out HW.out hn1 hn2 (by omega) (by omega)).mono ?_
        rintro e w'' ⟨er, p', vt', vw', th', rfl, q1, q2, q3⟩
        exact ⟨er, p', vt', vw', th', rfl, q1, BoxT.pt h2.box h2.at_ q2 (by decide) (by decide) (by decide) (by decide), BoxT.pt (X2.out.belowT hb) h2.at_ q2 (by decide) (by decide) (by decide) (by decide), h2.row.ptO h2.at_ q2, q3⟩
      have c1 : wr.cell? ⟨B, 1, none⟩ = some (.pointer (some ⟨V, 0, none⟩)) := by rw [H2.out.box.cellAt]; rfl
      have s1 : wr.cell? ⟨w.heap.size, 1, none⟩ = some (.int .i64 N) := by rw [X2.out.cellAt]; rfl
      have D0 : Hid (Below wr.heap.size wr wr.drew) := (Below.refl _ _).drew
      have HRI := hide (And.intro H2.out.forn (And.intro H2.out.ok (And.intro H2.out.rise (And.intro H2.out.top H2.out.wB))))
      clear hgo hng H2 X2 hpl
      rcases hcase with hlti | ⟨hlti, hb0⟩
      all_goals
        go_wp2_with fail
        go_region_held3 (fun w' => w'.cell? ⟨B, 1, none⟩ = some (.pointer (some ⟨V, 0, none⟩)) ∧ w'.cell? ⟨w.heap.size, 1, none⟩ = some (.int .i64 N) ∧ w'.cell? ⟨w.heap.size, 2, none⟩ = some (.slice sa l.length sc)) (first | go_keep | exact ⟨c1, s1, s2⟩ | exact ⟨k1, t1, t2⟩) (first | (go_at_call 13; refine (hput.out _ D0.out).mono ?_; rintro e w5 ⟨er, p5, vt5, vw5, th5, rfl, v5, xb5, xs5, rr5, hres⟩; have k1 : w5.cell? ⟨B, 1, none⟩ = some (.pointer (some ⟨V, 0, none⟩)) := (by rw [xb5.cellAt]; rfl); have t1 : w5.cell? ⟨w.heap.size, 1, none⟩ = some (.int .i64 N) := (by rw [xs5.cellAt]; rfl); have t2 : w5.cell? ⟨w.heap.size, 2, none⟩ = some (.slice sa l.length sc) := (by rw [xs5.cellAt]; rfl); have V5 := hide v5; have XB5 := hide xb5; have XS5 := hide xs5; have RR5 := hide rr5; have HRES := hide hres; clear v5 xb5 xs5 rr5 hres))
        obtain ⟨o, ho⟩ : ∃ o : OnV, o = ⟨n, ep, sa, sc, l⟩ := ⟨_, rfl⟩
        have k3 : w5.cell? ⟨B, 3, none⟩ = some (.slice la os.length lc) := by rw [XB5.out.cellAt]; rfl
        have D5 : Hid (Below w5.heap.size w5 w5.drew) := (Below.refl _ _).drew
        have D5b : Hid (Below w5.heap.size w5 (w5.drew.alloc (.cells #[.int .u64 (n : Int), .int .u64 (ep : Int), .slice sa l.length sc] 59))) := D5.out.alloc (Nat.le_refl _) _
        have hb5 : w0.heap.size ≤ w5.heap.size := V5.out.st.since.size
        have LSa : LSeg 3 OnV.cs w5.heap.size w5.drew (.slice la os.length lc) os := (RR5.out.lsegO (by omega)).below D5.out
        have LSb : LSeg 3 OnV.cs w5.heap.size (w5.drew.alloc (.cells #[.int .u64 (n : Int), .int .u64 (ep : Int), .slice sa l.length sc] 59)) (.slice la os.length lc) os := (RR5.out.lsegO (by omega)).below D5b.out
        have LSA := hide LSa
        have LSB := hide LSb
        have HOX : Hid (∀ (W : World) (g : Nat), BoxT 59 W g #[.int .u64 (n : Int), .int .u64 (ep : Int), .slice sa l.length sc] → ∀ (j : Nat) (u : Value), (OnV.cs o)[j]? = some u → W.cell? ((⟨g, 0, none⟩ : Addr).add j) = some u) := fun W g hx j u hu => by
          rw [add_plain2, Nat.zero_add, hx.cellAt]
          rw [ho] at hu
          match j, hu with
          | 0, hu | 1, hu | 2, hu => simpa [OnV.cs] using hu
        clear LSa LSb
        have KC : Hid (∀ w' : World, Below w5.heap.size w5 w' → w'.cell? ⟨B, 3, none⟩ = some (.slice la os.length lc) ∧ w'.cell? ⟨w.heap.size, 1, none⟩ = some (.int .i64 N) ∧ w'.cell? ⟨w.heap.size, 2, none⟩ = some (.slice sa l.length sc)) := fun w' hb => ⟨(by rw [(XB5.out.belowT hb).cellAt]; rfl), (by rw [(XS5.out.belowT hb).cellAt]; rfl), (by rw [(XS5.out.belowT hb).cellAt]; rfl)⟩
        clear k1 t1 t2 k3
        go_wp2_with fail
        refine wp_region_M (S := fun w' => w'.cell? ⟨B, 3, none⟩ = some (.slice la os.length lc) ∧ w'.cell? ⟨w.heap.size, 1, none⟩ = some (.int .i64 N) ∧ w'.cell? ⟨w.heap.size, 2, none⟩ = some (.slice sa l.length sc)) (late := []) (by kernel_rfl) (KC.out _ D5.out) (fun hHeld => ?_)
        (try simp only [List.size_toArray, List.length_cons, List.length_nil, Nat.zero_add, Nat.reduceAdd, Array.replicate, List.replicate])
        refine wpAnyM_take (i := 0) (oi := ⟨_, _, _, _, _, _⟩) (v := ?_) rfl (by kernel_rfl) (by kernel_rfl) (by kernel_rfl) (by kernel_rfl) (fun _ _ _ h => h) (Or.inl ⟨by rfl, ?_⟩) hHeld ?_
        rotate_left
        · (intro w' hSw; (try dsimp only at hSw); go_simp; try (with_reducible rfl))
        (try simp only [Act.put, List.setIfInBounds_toArray, List.set_cons_zero, List.set_cons_succ])
        refine wpAnyM_take (i := 1) (oi := ⟨_, _, _, _, _, _⟩) (v := ?_) rfl (by kernel_rfl) (by kernel_rfl) (by kernel_rfl) (by kernel_rfl) (fun _ _ _ h => h) (Or.inl ⟨by rfl, ?_⟩) hHeld ?_
        rotate_left
        · (intro w' hSw; (try dsimp only at hSw); go_simp; try (with_reducible rfl))
        (try simp only [Act.put, List.setIfInBounds_toArray, List.set_cons_zero, List.set_cons_succ])
        refine wpAnyM_take (i := 2) (oi := ⟨_, _, _, _, _, _⟩) (v := ?_) rfl (by kernel_rfl) (by kernel_rfl) (by kernel_rfl) (by kernel_rfl) (fun _ _ _ h => h) (Or.inl ⟨by rfl, ?_⟩) hHeld ?_
        rotate_left
        · (intro w' hSw; (try dsimp only at hSw); go_simp; try (with_reducible rfl))
        (try simp only [Act.put, List.setIfInBounds_toArray, List.set_cons_zero, List.set_cons_succ])
        refine wpAnyM_take (i := 3) (oi := ⟨_, _, _, _, _, _⟩) (v := ?_) rfl (by kernel_rfl) (by kernel_rfl) (by kernel_rfl) (by kernel_rfl) (fun _ _ _ h => h) (Or.inl ⟨by rfl, ?_⟩) hHeld ?_
        rotate_left
        · (intro w' hSw; (try dsimp only at hSw); go_simp; try (with_reducible rfl))
        (try simp only [Act.put, List.setIfInBounds_toArray, List.set_cons_zero, List.set_cons_succ])
        refine wpAnyM_take (i := 5) (oi := ⟨_, _, _, _, _, _⟩) (v := ?_) rfl (by kernel_rfl) (by kernel_rfl) (by kernel_rfl) (by kernel_rfl) (fun _ _ _ h => h) (Or.inl ⟨by rfl, ?_⟩) hHeld ?_
        rotate_left
        · (intro w' hSw; (try dsimp only at hSw); go_simp; try (with_reducible rfl))
        (try simp only [Act.put, List.setIfInBounds_toArray, List.set_cons_zero, List.set_cons_succ])
        refine wpAnyM_take (i := 6) (oi := ⟨_, _, _, _, _, _⟩) (v := ?_) rfl (by kernel_rfl) (by kernel_rfl) (by kernel_rfl) (by kernel_rfl) (fun _ _ _ h => h) (Or.inl ⟨by rfl, ?_⟩) hHeld ?_
        rotate_left
        · (intro w' hSw; (try dsimp only at hSw); go_simp; try (with_reducible rfl))
        (try simp only [Act.put, List.setIfInBounds_toArray, List.set_cons_zero, List.set_cons_succ])
        refine wpAnyM_take (i := 7) (oi := ⟨_, _, _, _, _, _⟩) (v := ?_) rfl (by kernel_rfl) (by kernel_rfl) (by kernel_rfl) (by kernel_rfl) (fun _ _ _ h => h) (Or.inl ⟨by rfl, ?_⟩) hHeld ?_
        rotate_left
        · (intro w' hSw; (try dsimp only at hSw); go_simp; try (with_reducible rfl))
        (try simp only [Act.put, List.setIfInBounds_toArray, List.set_cons_zero, List.set_cons_succ])
        refine wpAnyM_take (i := 8) (oi := ⟨_, _, _, _, _, _⟩) (v := ?_) rfl (by kernel_rfl) (by kernel_rfl) (by kernel_rfl) (by kernel_rfl) (fun _ _ _ h => h) (Or.inl ⟨by rfl, ?_⟩) hHeld ?_
        rotate_left
        · (intro w' hSw; (try dsimp only at hSw); go_simp; try (with_reducible rfl))
        (try simp only [Act.put, List.setIfInBounds_toArray, List.set_cons_zero, List.set_cons_succ])
        refine wpAnyM_take (i := 9) (oi := ⟨_, _, _, _, _, _⟩) (v := ?_) rfl (by kernel_rfl) (by kernel_rfl) (by kernel_rfl) (by kernel_rfl) (fun _ _ _ h => h) (Or.inl ⟨by rfl, ?_⟩) hHeld ?_
        rotate_left
        · (intro w' hSw; (try dsimp only at hSw); go_simp; try (with_reducible rfl))
        (try simp only [Act.put, List.setIfInBounds_toArray, List.set_cons_zero, List.set_cons_succ])
        refine wpAnyM_take (i := 10) (oi := ⟨_, _, _, _, _, _⟩) (v := ?_) rfl (by kernel_rfl) (by kernel_rfl) (by kernel_rfl) (by kernel_rfl) (fun _ _ _ h => h) (Or.inl ⟨by rfl, ?_⟩) hHeld ?_
        rotate_left
        · (intro w' hSw; (try dsimp only at hSw); go_simp; try (with_reducible rfl))
        (try simp only [Act.put, List.setIfInBounds_toArray, List.set_cons_zero, List.set_cons_succ])
        refine wpAnyM_take (i := 11) (oi := ⟨_, _, _, _, _, _⟩) (v := ?_) rfl (by kernel_rfl) (by kernel_rfl) (by kernel_rfl) (by kernel_rfl) (fun _ _ _ h => h) (Or.inl ⟨by rfl, ?_⟩) hHeld ?_
        rotate_left
        · (intro w' hSw; (try dsimp only at hSw); go_simp; try (with_reducible rfl))
        (try simp only [Act.put, List.setIfInBounds_toArray, List.set_cons_zero, List.set_cons_succ])
        refine wpAnyM_take (i := 12) (oi := ⟨_, _, _, _, _, _⟩) (v := ?_) rfl (by kernel_rfl) (by kernel_rfl) (by kernel_rfl) (by kernel_rfl) (fun _ _ _ h => h) (Or.inl ⟨by rfl, ?_⟩) hHeld ?_
        rotate_left
        · (intro w' hSw; (try dsimp only at hSw); go_simp; try (with_reducible rfl))
        (try simp only [Act.put, List.setIfInBounds_toArray, List.set_cons_zero, List.set_cons_succ])
        refine wpAnyM_two (i := 4) (j := 13) (oi := ⟨_, _, _, _, _, _⟩) (oj := ⟨_, _, _, _, _, _⟩) (by kernel_rfl) rfl rfl (fun K hK => ?_) (fun K hK => ?_)
        · refine step_lsegO rfl _ rfl w5.heap.size w5.heap.size (.slice la os.length lc) os rfl LSA.out (by omega) D5.out.size ?_
          intro v6 w6 o6 g6
          have D6 : Hid (Below w5.heap.size w5 w6) := D5.out.grown g6 D5.out.size (fun k e => by cases e)
          obtain ⟨a6, c6, hv6⟩ := o6.shape
          subst hv6
          have O6 := hide o6
          clear o6 g6
          refine hK.out _ _ (KC.out _ D6.out) (fun hHeld => ?_)
          clear hK K
          (try simp only [List.setIfInBounds_toArray, List.set_cons_zero, List.set_cons_succ])
          refine wpAnyM_one (i := 13) (o := ⟨_, _, _, _, _, _⟩) (by kernel_rfl) rfl (fun K hK => ?_)
          go_simp
          have D7 : Hid (Below w5.heap.size w5 (w6.alloc (.cells #[.int .u64 (n : Int), .int .u64 (ep : Int), .slice sa l.length sc] 59))) := D6.out.alloc D6.out.size _
          refine hK.out _ _ (KC.out _ D7.out) (fun hHeld => ?_)
          clear hK K
          (try simp only [List.setIfInBounds_toArray, List.set_cons_zero, List.set_cons_succ])
          refine wpAnyM_one (i := 14) (o := ⟨_, _, _, _, _, _⟩) (by kernel_rfl) rfl (fun K hK => ?_)
          refine step_row Tryz.info59' Tryz.underlying50 rfl (by decide) (by decide) OnV.cs_len OnV.cs_one rfl _ _ rfl w5.heap.size (.slice a6 os.length c6) os rfl (Row.of_own (OwnL.alloc O6.out _)) ⟨w6.heap.size, 0, none⟩ 1 o rfl (HOX.out _ _ (BoxT.new 59 w6 _)) (by omega) D7.out.size ?_
          intro v8 w8 r8 g8 _
          have D8 : Hid (Below w5.heap.size w5 w8) := D7.out.grown g8 D7.out.size (fun k e => OwnL.at O6.out k e)
          obtain ⟨a8, c8, hv8⟩ := r8.shape
          subst hv8
          have R8 := hide r8
          clear r8 g8
          refine hK.out _ _ (KC.out _ D8.out) (fun hHeld => ?_)
          clear hK K
          (try simp only [List.setIfInBounds_toArray, List.set_cons_zero, List.set_cons_succ])
          refine wpAnyM_take (i := 15) (oi := ⟨_, _, _, _, _, _⟩) (v := ?_) rfl (by kernel_rfl) (by kernel_rfl) (by kernel_rfl) (by kernel_rfl) (fun _ _ _ h => h) (Or.inl ⟨by rfl, ?_⟩) hHeld ?_
          rotate_left
          · (intro w' hSw; (try dsimp only at hSw); go_simp; try (with_reducible rfl))
          (try simp only [Act.put, List.setIfInBounds_toArray, List.set_cons_zero, List.set_cons_succ])
          refine wpAnyM_done (by kernel_rfl) ?_ _
          have V8 := hide (V5.out.below D8.out)
          have XB8 := hide (XB5.out.belowT D8.out)
          have RO8 : Hid (Row 59 3 OnV.cs w0.heap.size w8 (.slice la os.length lc) os) := RR5.out.below D8.out
          have RN8 : Hid (Row 59 3 OnV.cs w0.heap.size w8 (.slice a8 (os ++ [o]).length c8) (os ++ [o])) := Row.monoO R8.out hb5
          obtain ⟨d0, d1, d2, d3, d4, d5, d6, d7, d8⟩ := wld_cells XB8.out
          have df := XB8.out.free
          have hol : (os ++ [o]).length = os.length + 1 := by simp
          have HPW : Hid ((os.map OnV.sp).Pairwise fun a b => a.n < b.n) := (show List.Pairwise _ _ by rw [List.pairwise_map]; exact HRI.out.2.2.1)
          clear hput LSA LSB HOX D5 D5b KC V5 XB5 XS5 RR5 R8 O6 D0
          rcases HRES.out with ⟨f0, e0, h5, t5⟩ | ⟨f0, e0, h5, t5⟩ | ⟨f0, e0, h5⟩
          · have hee : er = bad := by rw [e0, HBAD.out]
            have hbn : (bad == 0) = false := by have : bad ≠ 0 := by rw [HBAD.out]; exact f0
                                                simp [this]
            have hbn2 : ¬ bad = 0 := by rw [HBAD.out]; exact f0
            subst hee
            have HF : Hid (LW w0 w8 B k V b (nf + 3000) kp p5 X os vt5 vw5 th5 la lc top) := ⟨XB8.out, V8.out, h5, HRI.out.1, t5, srt_of t5 HPW.out, HRI.out.2.1, HRI.out.2.2.1, HRI.out.2.2.2.1, RO8.out, HRI.out.2.2.2.2⟩
            clear HRES HBAD h5 t5 e0 f0
            as_aux_lemma =>
            go_wp2_with fail
            go_end0
            exact ⟨rfl, _, _, _, _, _, _, _, _, _, by omega, by omega, by omega, HF.out⟩
          · have hb00 : bad = 0 := by rw [HBAD.out, f0]
            subst hb00
            subst e0
            have HF : Hid (LW w0 w8 B k V b (nf + 3000) kp p5 X os vt5 vw5 th5 la lc top) := ⟨XB8.out, V8.out, h5, HRI.out.1, t5, srt_of t5 HPW.out, HRI.out.2.1, HRI.out.2.2.1, HRI.out.2.2.2.1, RO8.out, HRI.out.2.2.2.2⟩
            clear HRES HBAD h5 t5 f0
            as_aux_lemma =>
            go_wp2_with fail
            go_end0
            exact ⟨rfl, _, _, _, _, _, _, _, _, _, by omega, by omega, by omega, HF.out⟩
          · have hb00 : bad = 0 := by rw [HBAD.out, f0]
            subst hb00
            subst e0
            obtain ⟨h5, t5⟩ := h5 sa sc
            rw [← ho] at h5 t5
            have hwB := HRI.out.2.2.2.2
            have hcap := cap_w (w0 := w0) (show BoxT 52 w8 B #[_, _, .int .i64 (kp : Int), _, _, _, _, _, _] from XB8.out) RN8.out (by omega) hkp hkp1
            rw [hol] at hcap
            have HCAP := hide hcap
            have hnl : (nowO kp os o).length ≤ os.length + 1 := by unfold nowO; rw [List.length_drop, hol]; omega
            have hoo : OnOk w0 o := by rw [ho]; exact ⟨HIN.out, fun x hx => ⟨fstEr_zero.1 f0 x.s (List.mem_map.2 ⟨x, hx, rfl⟩), HLO.out x hx⟩, HW.out, by show 0 < n; omega, hn2, by show ep < _; omega⟩
            have hon : o.n = n := by rw [ho]
            have hok2 : ∀ x ∈ nowO kp os o, OnOk w0 x := fun x hx => by
              rcases nowO_mem hx with h | rfl
              · exact HRI.out.2.1 x h
              · exact hoo
            have hrise2 : (nowO kp os o).Pairwise fun a b => a.n < b.n := by
              unfold nowO
              refine List.Pairwise.sublist (List.drop_sublist _ _) ?_
              rw [List.pairwise_append]
              refine ⟨HRI.out.2.2.1, by simp, fun a ha b hb => ?_⟩
              rcases List.mem_singleton.1 hb with rfl
              have := HRI.out.2.2.2.1 a ha
              omega
            have htop2 : ∀ x ∈ nowO kp os o, x.n ≤ n := fun x hx => by
              rcases nowO_mem hx with h | rfl
              · have := HRI.out.2.2.2.1 x h; omega
              · omega
            have hnew : n ≤ newestS ((nowO kp os o).map OnV.sp) := by
              have hl : (nowO kp os o).getLast? = some o := by
                unfold nowO
                rw [List.getLast?_drop, if_neg (by rw [hol]; omega)]
                simp
              unfold newestS
              rw [List.getLast?_map, hl]
              show n ≤ o.n
              omega
            have hpw2 : ((nowO kp os o).map OnV.sp).Pairwise fun a b => a.n < b.n := by rw [List.pairwise_map]; exact hrise2
            have hone2 : ∀ y ∈ (nowO kp os o).map OnV.sp, One y := fun y hy => by
              obtain ⟨x, hx, rfl⟩ := List.mem_map.1 hy
              exact (hok2 x hx).one
            have HN9 : Hid (∀ u : Value, VAt w0 ((w8.setCell ⟨B, 3, none⟩ u).setCell ⟨B, 5, none⟩ (.int .u64 (n : Int))) V k b (nf + 3000) p5 (kp : Int) vt5 vw5 th5 [] ∧ BoxT 52 ((w8.setCell ⟨B, 3, none⟩ u).setCell ⟨B, 5, none⟩ (.int .u64 (n : Int))) B (wld k (.pointer (some ⟨V, 0, none⟩)) (kp : Int) u (.slice none 0 0) (.int .u64 (n : Int)) (.bool false) (.bool false) (.bool true)) ∧ ∀ (v : Value) (l : List OnV), Row 59 3 OnV.cs w0.heap.size w8 v l → Row 59 3 OnV.cs w0.heap.size ((w8.setCell ⟨B, 3, none⟩ u).setCell ⟨B, 5, none⟩ (.int .u64 (n : Int))) v l) := fun u => by
              have hT : Turned B B w8 ((w8.setCell ⟨B, 3, none⟩ u).setCell ⟨B, 5, none⟩ (.int .u64 (n : Int))) := (Turned.set B B _ 3 _).trans (Turned.set B B _ 5 _)
              refine ⟨V8.out.law XB8.out hwB hT (by decide) (by decide) (by decide) (by decide) (by decide) (by decide), ?_, fun v l hr => hr.boxed XB8.out hT (by decide)⟩
              simpa [wld] using (XB8.out.set 3 u).set 5 (.int .u64 (n : Int))
            have HOLD : Hid (∀ u : Value, Calls Tryz.prog 13 #[.pointer (some ⟨V, 0, none⟩), .int .u64 (n : Int), .int .u64 1, .slice none 0 0] ((w8.setCell ⟨B, 3, none⟩ u).setCell ⟨B, 5, none⟩ (.int .u64 (n : Int))) fun e w' => e = .returned (.int .i64 31) ∧ ∃ vt' vw' th', VAt w0 w' V k b (nf + 3000 + 3000) p5 (kp : Int) vt' vw' th' [] ∧ th'.map SpV.s = (nowO kp os o).map OnV.sp ∧ PT V k b vt5 vw5 vt' vw' ((w8.setCell ⟨B, 3, none⟩ u).setCell ⟨B, 5, none⟩ (.int .u64 (n : Int))) w') := fun u => put_old (HN9.out u).1 hg t5 hone2 (by rw [List.length_map]; omega) hkp hnew hn2 (by omega)
            have HALL := hide (And.intro h5 (And.intro hpw2 (And.intro hok2 (And.intro hrise2 (And.intro htop2 hnl)))))
            have hnow : (os ++ [o]).drop (os.length + 1 - kp) = nowO kp os o := by unfold nowO; rw [hol]
            rw [hnow] at HCAP
            clear ho HRES HBAD h5 t5 f0 hcap hnl hoo hok2 hrise2 htop2 hnew hpw2 hone2 hnow V8 RO8
            as_aux_lemma =>
            go_wp2_with (first
              | (go_at_call 75; refine HCAP.out.mono ?_; rintro e w9 ⟨a9, c9, rfl, r9, hw9⟩; subst hw9; have R9 := hide r9; clear r9)
              | (go_at_call 13; refine (HOLD.out _).mono ?_; rintro e w10 ⟨rfl, vt10, vw10, th10, v10, t10, pt10⟩; have XB10 := hide (BoxT.pt (HN9.out _).2.1 (HN9.out _).1 pt10 (by decide) (by decide) (by decide) (by decide)); have R10 := hide (((HN9.out _).2.2 _ _ R9.out).ptO (HN9.out _).1 pt10); have V10 := hide v10; have T10 := hide t10; obtain ⟨f0, f1, f2, f3, f4, f5, f6, f7, f8⟩ := wld_cells XB10.out; have ff := XB10.out.free; clear v10 t10 pt10))
            go_end0
            have hT : Turned B B w10 ((w10.setCell ⟨B, 8, none⟩ (.bool true)).setCell ⟨B, 7, none⟩ (.bool false)) := (Turned.set B B _ 8 _).trans (Turned.set B B _ 7 _)
            have hX := (XB10.out.set 8 (.bool true)).set 7 (.bool false)
            refine ⟨rfl, nf + 3000 + 3000, p5, nowO kp os o, vt10, vw10, th10, a9, c9, n, by omega, HALL.out.2.2.2.2.2, hn3, ?_⟩
            exact ⟨by simpa [wld] using hX, V10.out.law XB10.out hwB hT (by decide) (by decide) (by decide) (by decide) (by decide) (by decide), HALL.out.1, HRI.out.1, T10.out, srt_of T10.out HALL.out.2.1, HALL.out.2.2.1, HALL.out.2.2.2.1, HALL.out.2.2.2.2.1, R10.out.boxed XB10.out hT (by decide), hwB⟩
        · go_simp
          refine hK.out _ _ (KC.out _ D5b.out) (fun hHeld => ?_)
          clear hK K
          (try simp only [List.setIfInBounds_toArray, List.set_cons_zero, List.set_cons_succ])
          refine wpAnyM_one (i := 4) (o := ⟨_, _, _, _, _, _⟩) (by kernel_rfl) rfl (fun K hK => ?_)
          refine step_lsegO rfl _ rfl w5.heap.size w5.heap.size (.slice la os.length lc) os rfl LSB.out (by omega) D5b.out.size ?_
          intro v6 w6 o6 g6
          have D6 : Hid (Below w5.heap.size w5 w6) := D5b.out.grown g6 D5b.out.size (fun k e => by cases e)
          obtain ⟨a6, c6, hv6⟩ := o6.shape
          subst hv6
          have O6 := hide o6
          have XO6 : BoxT 59 w6 w5.heap.size #[.int .u64 (n : Int), .int .u64 (ep : Int), .slice sa l.length sc] := by
            have hx := BoxT.new 59 w5.drew #[.int .u64 (n : Int), .int .u64 (ep : Int), .slice sa l.length sc]
            have hlt := hx.lt
            unfold BoxT at *
            exact (g6.block w5.heap.size hlt (by simp)).trans hx
          have XO := hide XO6
          clear XO6 o6 g6
          refine hK.out _ _ (KC.out _ D6.out) (fun hHeld => ?_)
          clear hK K
          (try simp only [List.setIfInBounds_toArray, List.set_cons_zero, List.set_cons_succ])
          refine wpAnyM_one (i := 14) (o := ⟨_, _, _, _, _, _⟩) (by kernel_rfl) rfl (fun K hK => ?_)
          refine step_row Tryz.info59' Tryz.underlying50 rfl (by decide) (by decide) OnV.cs_len OnV.cs_one rfl _ _ rfl w5.heap.size (.slice a6 os.length c6) os rfl (Row.of_own O6.out) ⟨w5.heap.size, 0, none⟩ 1 o rfl (HOX.out _ _ XO.out) (by omega) D6.out.size ?_
          intro v8 w8 r8 g8 _
          have D8 : Hid (Below w5.heap.size w5 w8) := D6.out.grown g8 D6.out.size (fun k e => OwnL.at O6.out k e)
          obtain ⟨a8, c8, hv8⟩ := r8.shape
          subst hv8
          have R8 := hide r8
          clear r8 g8
          refine hK.out _ _ (KC.out _ D8.out) (fun hHeld => ?_)
          clear hK K
          (try simp only [List.setIfInBounds_toArray, List.set_cons_zero, List.set_cons_succ])
          refine wpAnyM_take (i := 15) (oi := ⟨_, _, _, _, _, _⟩) (v := ?_) rfl (by kernel_rfl) (by kernel_rfl) (by kernel_rfl) (by kernel_rfl) (fun _ _ _ h => h) (Or.inl ⟨by rfl, ?_⟩) hHeld ?_
          rotate_left
          · (intro w' hSw; (try dsimp only at hSw); go_simp; try (with_reducible rfl))
          (try simp only [Act.put, List.setIfInBounds_toArray, List.set_cons_zero, List.set_cons_succ])
          refine wpAnyM_done (by kernel_rfl) ?_ _
          have V8 := hide (V5.out.below D8.out)
          have XB8 := hide (XB5.out.belowT D8.out)
          have RO8 : Hid (Row 59 3 OnV.cs w0.heap.size w8 (.slice la os.length lc) os) := RR5.out.below D8.out
          have RN8 : Hid (Row 59 3 OnV.cs w0.heap.size w8 (.slice a8 (os ++ [o]).length c8) (os ++ [o])) := Row.monoO R8.out hb5
          obtain ⟨d0, d1, d2, d3, d4, d5, d6, d7, d8⟩ := wld_cells XB8.out
          have df := XB8.out.free
          have hol : (os ++ [o]).length = os.length + 1 := by simp
          have HPW : Hid ((os.map OnV.sp).Pairwise fun a b => a.n < b.n) := (show List.Pairwise _ _ by rw [List.pairwise_map]; exact HRI.out.2.2.1)
          clear hput LSA LSB HOX D5 D5b KC V5 XB5 XS5 RR5 R8 O6 D0
          rcases HRES.out with ⟨f0, e0, h5, t5⟩ | ⟨f0, e0, h5, t5⟩ | ⟨f0, e0, h5⟩
          · have hee : er = bad := by rw [e0, HBAD.out]
            have hbn : (bad == 0) = false := by have : bad ≠ 0 := by rw [HBAD.out]; exact f0
                                                simp [this]
            have hbn2 : ¬ bad = 0 := by rw [HBAD.out]; exact f0
            subst hee
            have HF : Hid (LW w0 w8 B k V b (nf + 3000) kp p5 X os vt5 vw5 th5 la lc top) := ⟨XB8.out, V8.out, h5, HRI.out.1, t5, srt_of t5 HPW.out, HRI.out.2.1, HRI.out.2.2.1, HRI.out.2.2.2.1, RO8.out, HRI.out.2.2.2.2⟩
            clear HRES HBAD h5 t5 e0 f0
            as_aux_lemma =>
            go_wp2_with fail
            go_end0
            exact ⟨rfl, _, _, _, _, _, _, _, _, _, by omega, by omega, by omega, HF.out⟩
          · have hb00 : bad = 0 := by rw [HBAD.out, f0]
            subst hb00
            subst e0
            have HF : Hid (LW w0 w8 B k V b (nf + 3000) kp p5 X os vt5 vw5 th5 la lc top) := ⟨XB8.out, V8.out, h5, HRI.out.1, t5, srt_of t5 HPW.out, HRI.out.2.1, HRI.out.2.2.1, HRI.out.2.2.2.1, RO8.out, HRI.out.2.2.2.2⟩
            clear HRES HBAD h5 t5 f0
            as_aux_lemma =>
            go_wp2_with fail
            go_end0
            exact ⟨rfl, _, _, _, _, _, _, _, _, _, by omega, by omega, by omega, HF.out⟩
          · have hb00 : bad = 0 := by rw [HBAD.out, f0]
            subst hb00
            subst e0
            obtain ⟨h5, t5⟩ := h5 sa sc
            rw [← ho] at h5 t5
            have hwB := HRI.out.2.2.2.2
            have hcap := cap_w (w0 := w0) (show BoxT 52 w8 B #[_, _, .int .i64 (kp : Int), _, _, _, _, _, _] from XB8.out) RN8.out (by omega) hkp hkp1
            rw [hol] at hcap
            have HCAP := hide hcap
            have hnl : (nowO kp os o).length ≤ os.length + 1 := by unfold nowO; rw [List.length_drop, hol]; omega
            have hoo : OnOk w0 o := by rw [ho]; exact ⟨HIN.out, fun x hx => ⟨fstEr_zero.1 f0 x.s (List.mem_map.2 ⟨x, hx, rfl⟩), HLO.out x hx⟩, HW.out, by show 0 < n; omega, hn2, by show ep < _; omega⟩
            have hon : o.n = n := by rw [ho]
            have hok2 : ∀ x ∈ nowO kp os o, OnOk w0 x := fun x hx => by
              rcases nowO_mem hx with h | rfl
              · exact HRI.out.2.1 x h
              · exact hoo
            have hrise2 : (nowO kp os o).Pairwise fun a b => a.n < b.n := by
              unfold nowO
              refine List.Pairwise.sublist (List.drop_sublist _ _) ?_
              rw [List.pairwise_append]
              refine ⟨HRI.out.2.2.1, by simp, fun a ha b hb => ?_⟩
              rcases List.mem_singleton.1 hb with rfl
              have := HRI.out.2.2.2.1 a ha
              omega
            have htop2 : ∀ x ∈ nowO kp os o, x.n ≤ n := fun x hx => by
              rcases nowO_mem hx with h | rfl
              · have := HRI.out.2.2.2.1 x h; omega
              · omega
            have hnew : n ≤ newestS ((nowO kp os o).map OnV.sp) := by
              have hl : (nowO kp os o).getLast? = some o := by
                unfold nowO
                rw [List.getLast?_drop, if_neg (by rw [hol]; omega)]
                simp
              unfold newestS
              rw [List.getLast?_map, hl]
              show n ≤ o.n
              omega
            have hpw2 : ((nowO kp os o).map OnV.sp).Pairwise fun a b => a.n < b.n := by rw [List.pairwise_map]; exact hrise2
            have hone2 : ∀ y ∈ (nowO kp os o).map OnV.sp, One y := fun y hy => by
              obtain ⟨x, hx, rfl⟩ := List.mem_map.1 hy
              exact (hok2 x hx).one
            have HN9 : Hid (∀ u : Value, VAt w0 ((w8.setCell ⟨B, 3, none⟩ u).setCell ⟨B, 5, none⟩ (.int .u64 (n : Int))) V k b (nf + 3000) p5 (kp : Int) vt5 vw5 th5 [] ∧ BoxT 52 ((w8.setCell ⟨B, 3, none⟩ u).setCell ⟨B, 5, none⟩ (.int .u64 (n : Int))) B (wld k (.pointer (some ⟨V, 0, none⟩)) (kp : Int) u (.slice none 0 0) (.int .u64 (n : Int)) (.bool false) (.bool false) (.bool true)) ∧ ∀ (v : Value) (l : List OnV), Row 59 3 OnV.cs w0.heap.size w8 v l → Row 59 3 OnV.cs w0.heap.size ((w8.setCell ⟨B, 3, none⟩ u).setCell ⟨B, 5, none⟩ (.int .u64 (n : Int))) v l) := fun u => by
              have hT : Turned B B w8 ((w8.setCell ⟨B, 3, none⟩ u).setCell ⟨B, 5, none⟩ (.int .u64 (n : Int))) := (Turned.set B B _ 3 _).trans (Turned.set B B _ 5 _)
              refine ⟨V8.out.law XB8.out hwB hT (by decide) (by decide) (by decide) (by decide) (by decide) (by decide), ?_, fun v l hr => hr.boxed XB8.out hT (by decide)⟩
              simpa [wld] using (XB8.out.set 3 u).set 5 (.int .u64 (n : Int))
            have HOLD : Hid (∀ u : Value, Calls Tryz.prog 13 #[.pointer (some ⟨V, 0, none⟩), .int .u64 (n : Int), .int .u64 1, .slice none 0 0] ((w8.setCell ⟨B, 3, none⟩ u).setCell ⟨B, 5, none⟩ (.int .u64 (n : Int))) fun e w' => e = .returned (.int .i64 31) ∧ ∃ vt' vw' th', VAt w0 w' V k b (nf + 3000 + 3000) p5 (kp : Int) vt' vw' th' [] ∧ th'.map SpV.s = (nowO kp os o).map OnV.sp ∧ PT V k b vt5 vw5 vt' vw' ((w8.setCell ⟨B, 3, none⟩ u).setCell ⟨B, 5, none⟩ (.int .u64 (n : Int))) w') := fun u => put_old (HN9.out u).1 hg t5 hone2 (by rw [List.length_map]; omega) hkp hnew hn2 (by omega)
            have HALL := hide (And.intro h5 (And.intro hpw2 (And.intro hok2 (And.intro hrise2 (And.intro htop2 hnl)))))
            have hnow : (os ++ [o]).drop (os.length + 1 - kp) = nowO kp os o := by unfold nowO; rw [hol]
            rw [hnow] at HCAP
            clear ho HRES HBAD h5 t5 f0 hcap hnl hoo hok2 hrise2 htop2 hnew hpw2 hone2 hnow V8 RO8
            as_aux_lemma =>
            go_wp2_with (first
              | (go_at_call 75; refine HCAP.out.mono ?_; rintro e w9 ⟨a9, c9, rfl, r9, hw9⟩; subst hw9; have R9 := hide r9; clear r9)
              | (go_at_call 13; refine (HOLD.out _).mono ?_; rintro e w10 ⟨rfl, vt10, vw10, th10, v10, t10, pt10⟩; have XB10 := hide (BoxT.pt (HN9.out _).2.1 (HN9.out _).1 pt10 (by decide) (by decide) (by decide) (by decide)); have R10 := hide (((HN9.out _).2.2 _ _ R9.out).ptO (HN9.out _).1 pt10); have V10 := hide v10; have T10 := hide t10; obtain ⟨f0, f1, f2, f3, f4, f5, f6, f7, f8⟩ := wld_cells XB10.out; have ff := XB10.out.free; clear v10 t10 pt10))
            go_end0
            have hT : Turned B B w10 ((w10.setCell ⟨B, 8, none⟩ (.bool true)).setCell ⟨B, 7, none⟩ (.bool false)) := (Turned.set B B _ 8 _).trans (Turned.set B B _ 7 _)
            have hX := (XB10.out.set 8 (.bool true)).set 7 (.bool false)
            refine ⟨rfl, nf + 3000 + 3000, p5, nowO kp os o, vt10, vw10, th10, a9, c9, n, by omega, HALL.out.2.2.2.2.2, hn3, ?_⟩
            exact ⟨by simpa [wld] using hX, V10.out.law XB10.out hwB hT (by decide) (by decide) (by decide) (by decide) (by decide) (by decide), HALL.out.1, HRI.out.1, T10.out, srt_of T10.out HALL.out.2.1, HALL.out.2.2.1, HALL.out.2.2.2.1, HALL.out.2.2.2.2.1, R10.out.boxed XB10.out hT (by decide), hwB⟩
end Go.Proofs.YtbfhcbihgleddaaGreatDoor
