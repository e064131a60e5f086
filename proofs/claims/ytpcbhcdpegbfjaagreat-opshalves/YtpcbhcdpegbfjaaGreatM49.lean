/-
  Texts in build order: OAny, OHal, OHalW.
-/
import Derived.Test.YtpcbhcdpegbfjaaGreatM48
import Derived.Deep.CutBlock
import Derived.Deep.CutRange
/-
  The calls of the operator of any node.
-/
namespace Go.Proofs.YtpcbhcdpegbfjaaGreat
open Go.RowKit


theorem LSeg.of_own {α : Type} {t sz : Nat} {cs : α → List Value} {base : Nat} {w : World} {v : Value} {xs : List α} (h : OwnL t sz cs base w v xs) (hcs : ∀ x, (cs x).length = sz) (hl : xs.length ≤ 140737488355328) : LSeg sz cs w.heap.size w v xs := h.seg hcs hl
theorem Comes.nil {s : Bool} {J : Int → Int → Int} : Comes s J [] [] := Comes.refl List.Pairwise.nil
def SlPost (W : World) (r : Ending) (w' : World) : Prop := r = .returned (.tuple #[]) ∧ Below W.heap.size W w'
set_option maxHeartbeats 4000000 in
set_option maxRecDepth 100000 in
theorem st_load (w : World) (va : Option Addr) (vl vc : Nat) : Calls Tryz.prog 77 #[.agg #[], .slice va vl vc] w (SlPost w) := by
  have HB := hide (below_box w (.cells #[] 85))
  go_enter Tryz.func77, Tryz.ntmps77
  go_wp2_with fail
  refine bodyPost_ret (v := .tuple #[]) (by simp [results, Tryz.results77, go_sem]) rfl ?_
  exact ⟨rfl, HB.out⟩
theorem m_load85 (W : World)  : (method 317 85 (.agg #[]) "leat/ops.load").run Tryz.prog W = .ok (77, .agg #[]) W := by kernel_rfl
theorem m_load87 (W : World) (op n : Int) (a : Option Addr) (en c : Nat) : (method 317 87 (.agg #[.int .i64 op, .int .i64 n, .slice a en c]) "leat/ops.load").run Tryz.prog W = .ok (77, .agg #[]) W := by kernel_rfl
theorem m_load88 (W : World) (op n : Int) (a : Option Addr) (en c : Nat) : (method 317 88 (.agg #[.int .i64 op, .int .i64 n, .slice a en c]) "leat/ops.load").run Tryz.prog W = .ok (77, .agg #[]) W := by kernel_rfl
theorem m_load89 (W : World) (op n : Int) (a : Option Addr) (en c : Nat) : (method 317 89 (.agg #[.int .i64 op, .int .i64 n, .slice a en c]) "leat/ops.load").run Tryz.prog W = .ok (77, .agg #[]) W := by kernel_rfl
theorem m_load91 (W : World)  : (method 317 91 (.agg #[]) "leat/ops.load").run Tryz.prog W = .ok (77, .agg #[]) W := by kernel_rfl
set_option maxHeartbeats 4000000 in
set_option maxRecDepth 100000 in
theorem SO.load {W : World} {O T : Nat} {e : J.Ex} (h : SO W O T e) (va : Option Addr) (vl vc : Nat) : Calls Tryz.prog 18 #[.pointer (some ⟨O, 0, none⟩), .slice va vl vc] W (SlPost W) := by
  have HS := hide (st_load W va vl vc)
  obtain ⟨hb, hk, hi, hf⟩ := h
  have y0 := hb.cellAt 0
  clear hb hi hf
  obtain ⟨op, n, a, c, l⟩ := e
  rcases hk with rfl | rfl | rfl | rfl | rfl
  · have y : W.cell? ⟨O, 0, none⟩ = some (.iface 85 (.agg #[])) := y0
    have hm := m_load85 W
    clear y0
    generalize l.length = en at *
    go_enter Tryz.func18, Tryz.ntmps18
    go_wp2_with (go_at_call 77; refine HS.out.mono ?_; rintro r w2 ⟨rfl, b2⟩; have B2 := hide b2; clear b2)
    refine bodyPost_ret (v := .tuple #[]) (by simp [results, Tryz.results18, go_sem]) rfl ?_
    exact ⟨rfl, B2.out⟩
  · have y : W.cell? ⟨O, 0, none⟩ = some (.iface 87 (.agg #[.int .i64 op, .int .i64 n, .slice a l.length c])) := y0
    have hm := m_load87 W op n a l.length c
    clear y0
    generalize l.length = en at *
    go_enter Tryz.func18, Tryz.ntmps18
    go_wp2_with (go_at_call 77; refine HS.out.mono ?_; rintro r w2 ⟨rfl, b2⟩; have B2 := hide b2; clear b2)
    refine bodyPost_ret (v := .tuple #[]) (by simp [results, Tryz.results18, go_sem]) rfl ?_
    exact ⟨rfl, B2.out⟩
  · have y : W.cell? ⟨O, 0, none⟩ = some (.iface 88 (.agg #[.int .i64 op, .int .i64 n, .slice a l.length c])) := y0
    have hm := m_load88 W op n a l.length c
    clear y0
    generalize l.length = en at *
    go_enter Tryz.func18, Tryz.ntmps18
    go_wp2_with (go_at_call 77; refine HS.out.mono ?_; rintro r w2 ⟨rfl, b2⟩; have B2 := hide b2; clear b2)
    refine bodyPost_ret (v := .tuple #[]) (by simp [results, Tryz.results18, go_sem]) rfl ?_
    exact ⟨rfl, B2.out⟩
  · have y : W.cell? ⟨O, 0, none⟩ = some (.iface 89 (.agg #[.int .i64 op, .int .i64 n, .slice a l.length c])) := y0
    have hm := m_load89 W op n a l.length c
    clear y0
    generalize l.length = en at *
    go_enter Tryz.func18, Tryz.ntmps18
    go_wp2_with (go_at_call 77; refine HS.out.mono ?_; rintro r w2 ⟨rfl, b2⟩; have B2 := hide b2; clear b2)
    refine bodyPost_ret (v := .tuple #[]) (by simp [results, Tryz.results18, go_sem]) rfl ?_
    exact ⟨rfl, B2.out⟩
  · have y : W.cell? ⟨O, 0, none⟩ = some (.iface 91 (.agg #[])) := y0
    have hm := m_load91 W
    clear y0
    generalize l.length = en at *
    go_enter Tryz.func18, Tryz.ntmps18
    go_wp2_with (go_at_call 77; refine HS.out.mono ?_; rintro r w2 ⟨rfl, b2⟩; have B2 := hide b2; clear b2)
    refine bodyPost_ret (v := .tuple #[]) (by simp [results, Tryz.results18, go_sem]) rfl ?_
    exact ⟨rfl, B2.out⟩
theorem FT.fo' {F F' Fk Fk' : Nat → Prop} {O : Nat} {W W' : World} (h : FT Fk Fk' W W') (h1 : ∀ i, F i ↔ (i = O ∨ Fk i)) (h2 : ∀ i, F' i ↔ (i = O ∨ Fk' i)) : FT F F' W W' :=
  ⟨h.os, h.tape, h.output, h.size, fun i hi hn => h.block i hi (fun e => hn ((h1 i).2 (.inr e))), fun i hi => by
    rcases (h2 i).1 hi with rfl | e
    · exact .inl ((h1 _).2 (.inl rfl))
    · rcases h.sub i e with e2 | e2
      · exact .inl ((h1 i).2 (.inr e2))
      · exact .inr e2⟩
def RecPost (W : World) (nd : J.Nd) (O n : Nat) (F : Nat → Prop) (X : List Pn) (g d : Int) (r : Rc) (e : Ending) (w' : World) : Prop :=
  ∃ u F' X' d', e = .returned u ∧ LSeg 3 Rc.cs w'.heap.size w' u (outR nd r) ∧ OpAt w' nd O (n + 64) F' X' g d' ∧ FT F F' W w' ∧ Comes (sN nd) (jn nd.agg) (FrN nd g r ++ X) X' ∧ DN nd g r.t d d' ∧ (nd.kind ≠ 6 → nd.kind ≠ 7 → Below W.heap.size W w')
theorem OpAt.record {W : World} {nd : J.Nd} {O n : Nat} {F : Nat → Prop} {X : List Pn} {g d : Int} (h : OpAt W nd O n F X g d) (hok : NdOk nd) (r : Rc) (hrk : In64 r.k) (hrv : In64 r.v) (ht : TimeOk r.t) (hn : n ≤ 70000) :
    Calls Tryz.prog 14 #[.pointer (some ⟨O, 0, none⟩), .agg #[.int .i64 r.k, .int .i64 r.t, .int .i64 r.v]] W (RecPost W nd O n F X g d r) := by
  obtain ⟨rk, rt, rv⟩ := r
  simp only at hrk hrv ht ⊢
  unfold RecPost
  rcases h with ⟨h6, h7, ⟨e', so, hw, hF⟩, rfl, rfl⟩ | ⟨h7, K, s, Fk, hb, hk, hno, hF⟩ | ⟨h6, K, s, Fk, hb, hk, hno, hF⟩
  · refine (so.record rk rt rv).mono ?_
    rintro e w' ⟨u, rfl, hl, hbel⟩
    refine ⟨u, F, [], 0, rfl, ?_, .inl ⟨h6, h7, ⟨e', so.below hbel, hw, hF⟩, rfl, rfl⟩, FT.of_below hbel, ?_, ?_, fun _ _ => hbel⟩
    · unfold outR
      rw [if_neg (by omega), ← rsO_wth hw]
      exact hl
    · unfold FrN
      rw [if_neg h7, if_neg h6]
      exact Comes.nil
    · unfold DN
      rw [if_neg h7]
  · have hf := hok.f7 h7
    refine (orecW hb hk hno hf.2 hf.1 rk rt rv hrk hrv ht hn).mono ?_
    rintro e w' ⟨rfl, hb', F', X', d', hk', hft, hno', hc, hd⟩
    refine ⟨_, fun i => i = O ∨ F' i, X', d', rfl, ?_, .inr (.inl ⟨h7, K, s, F', hb', hk', hno', fun _ => Iff.rfl⟩), hft.fo' hF (fun _ => Iff.rfl), ?_, ?_, fun _ e => absurd h7 e⟩
    · unfold outR
      rw [if_pos (.inr h7)]
      exact LSeg.nil' ..
    · unfold FrN sN
      rw [if_pos h7, if_pos h7]
      exact hc
    · unfold DN
      rw [if_pos h7]
      exact hd
  · have hf := hok.f6 h6
    refine (orecR hb hk hno hf rk rt rv hrk hrv ht hn).mono ?_
    rintro e w' ⟨rfl, hb', F', X', hk', hft, hno', hc⟩
    refine ⟨_, fun i => i = O ∨ F' i, X', d, rfl, ?_, .inr (.inr ⟨h6, K, s, F', hb', hk', hno', fun _ => Iff.rfl⟩), hft.fo' hF (fun _ => Iff.rfl), ?_, ?_, fun e _ => absurd h6 e⟩
    · unfold outR
      rw [if_pos (.inl h6)]
      exact LSeg.nil' ..
    · unfold FrN sN
      rw [if_neg (by omega), if_pos h6, if_neg (by omega)]
      exact hc
    · unfold DN
      rw [if_neg (by omega)]
def MarkPost (W : World) (nd : J.Nd) (O n : Nat) (F : Nat → Prop) (X : List Pn) (g d m : Int) (e : Ending) (w' : World) : Prop :=
  ∃ u F', e = .returned u ∧ LSeg 3 Rc.cs w'.heap.size w' u (outMk nd g m X) ∧ OpAt w' nd O n F' (leftMk nd g m X) (max g m) d ∧ FT F F' W w' ∧ ∀ q, u.ownBlock = some q → W.heap.size ≤ q
theorem OpAt.mark {W : World} {nd : J.Nd} {O n : Nat} {F : Nat → Prop} {X : List Pn} {g d : Int} (h : OpAt W nd O n F X g d) (hn : n ≤ 70000) (m : Int) : Calls Tryz.prog 16 #[.pointer (some ⟨O, 0, none⟩), .int .i64 m] W (MarkPost W nd O n F X g d m) := by
  have hlen := h.len
  have hol := outMk_len nd g m X
  unfold MarkPost
  rcases h with ⟨h6, h7, ⟨e', so, hw, hF⟩, rfl, rfl⟩ | ⟨h7, K, s, Fk, hb, hk, hno, hF⟩ | ⟨h6, K, s, Fk, hb, hk, hno, hF⟩
  · refine (so.mark m).mono ?_
    rintro e w' ⟨rfl, hbel⟩
    refine ⟨_, F, rfl, ?_, .inl ⟨h6, h7, ⟨e', so.below hbel, hw, hF⟩, ?_, rfl⟩, FT.of_below hbel, fun q e => by cases e⟩
    · unfold outMk
      rw [if_neg h7, if_neg h6]
      exact LSeg.nil' ..
    · unfold leftMk
      rw [if_neg h7, if_neg h6]
  · refine (omarkW hb hk hno hn m).mono ?_
    rintro e w' ⟨u, F', rfl, ho, hb', hk', hft, hno'⟩
    unfold outMk at hol
    rw [if_pos h7] at hol
    unfold outMk leftMk
    rw [if_pos h7, if_pos h7]
    exact ⟨u, fun i => i = O ∨ F' i, rfl, LSeg.of_own ho (fun _ => rfl) (by omega), .inr (.inl ⟨h7, K, s, F', hb', hk', hno', fun _ => Iff.rfl⟩), hft.fo' hF (fun _ => Iff.rfl), fun q e => ho.at q e⟩
  · refine (omarkR hb hk hno hn m).mono ?_
    rintro e w' ⟨u, F', rfl, ho, hb', hk', hft, hno'⟩
    unfold outMk at hol
    rw [if_neg (by omega), if_pos h6] at hol
    unfold outMk leftMk
    rw [if_neg (by omega), if_pos h6, if_neg (by omega), if_pos h6]
    exact ⟨u, fun i => i = O ∨ F' i, rfl, LSeg.of_own ho (fun _ => rfl) (by omega), .inr (.inr ⟨h6, K, s, F', hb', hk', hno', fun _ => Iff.rfl⟩), hft.fo' hF (fun _ => Iff.rfl), fun q e => ho.at q e⟩
def PanPost (W : World) (nd : J.Nd) (O n : Nat) (F : Nat → Prop) (X : List Pn) (g d : Int) (e : Ending) (w' : World) : Prop :=
  ∃ u F', e = .returned u ∧ LSeg 4 Pn.cs w'.heap.size w' u (srt X) ∧ (∀ q, u.ownBlock = some q → W.heap.size ≤ q) ∧ OpAt w' nd O n F' X g d ∧ FT F F' W w'
theorem OpAt.panes {W : World} {nd : J.Nd} {O n : Nat} {F : Nat → Prop} {X : List Pn} {g d : Int} (h : OpAt W nd O n F X g d) (hn : n ≤ 70000) : Calls Tryz.prog 19 #[.pointer (some ⟨O, 0, none⟩)] W (PanPost W nd O n F X g d) := by
  have hlen := h.len
  have hsl := srt_len X
  unfold PanPost
  rcases h with ⟨h6, h7, ⟨e', so, hw, hF⟩, rfl, rfl⟩ | ⟨h7, K, s, Fk, hb, hk, hno, hF⟩ | ⟨h6, K, s, Fk, hb, hk, hno, hF⟩
  · refine so.panes.mono ?_
    rintro e w' ⟨rfl, hbel⟩
    exact ⟨_, F, rfl, LSeg.nil' .., (fun q e => by cases e), .inl ⟨h6, h7, ⟨e', so.below hbel, hw, hF⟩, rfl, rfl⟩, FT.of_below hbel⟩
  · refine (opanW hb hk hno hn).mono ?_
    rintro e w' ⟨u, F', rfl, hr, hb', hk', hft, hno'⟩
    exact ⟨u, fun i => i = O ∨ F' i, rfl, hr.seg Pn.cs_len (by omega), fun q e => hr.at q e, .inr (.inl ⟨h7, K, s, F', hb', hk', hno', fun _ => Iff.rfl⟩), hft.fo' hF (fun _ => Iff.rfl)⟩
  · refine (opanR hb hk hno hn).mono ?_
    rintro e w' ⟨u, F', rfl, hr, hb', hk', hft, hno'⟩
    exact ⟨u, fun i => i = O ∨ F' i, rfl, hr.seg Pn.cs_len (by omega), fun q e => hr.at q e, .inr (.inr ⟨h6, K, s, F', hb', hk', hno', fun _ => Iff.rfl⟩), hft.fo' hF (fun _ => Iff.rfl)⟩
def LoadPost (W : World) (nd : J.Nd) (O n : Nat) (F : Nat → Prop) (g d : Int) (L : List Pn) (e : Ending) (w' : World) : Prop :=
  e = .returned (.tuple #[]) ∧ ∃ F' X', OpAt w' nd O n F' X' g d ∧ FT F F' W w' ∧ (nd.kind = 6 ∨ nd.kind = 7 → Comes (sN nd) (jn nd.agg) L X')
theorem OpAt.load {W : World} {nd : J.Nd} {O n : Nat} {F : Nat → Prop} {X : List Pn} {g d : Int} (h : OpAt W nd O n F X g d) {v : Value} {L : List Pn} (hl : LSeg 4 Pn.cs W.heap.size W v L) (hv : ∀ q, v.ownBlock = some q → ¬ F q) (ho : ∀ x ∈ L, PnOk x ∧ (nd.kind = 7 → nd.wk = 3 → x.f < x.t)) (hn : L.length ≤ n) (hn2 : n ≤ 70000) : Calls Tryz.prog 18 #[.pointer (some ⟨O, 0, none⟩), v] W (LoadPost W nd O n F g d L) := by
  unfold LoadPost
  rcases h with ⟨h6, h7, ⟨e', so, hw, hF⟩, rfl, rfl⟩ | ⟨h7, K, s, Fk, hb, hk, hno, hF⟩ | ⟨h6, K, s, Fk, hb, hk, hno, hF⟩
  · obtain ⟨va, vc, rfl⟩ := hl.shapeOf
    refine (so.load va L.length vc).mono ?_
    rintro e w' ⟨rfl, hbel⟩
    exact ⟨rfl, F, [], .inl ⟨h6, h7, ⟨e', so.below hbel, hw, hF⟩, rfl, rfl⟩, FT.of_below hbel, fun e => by omega⟩
  · refine (oloadW hb hk hno hl (fun q e e2 => hv q e ((hF q).2 (.inr e2))) (fun x hx => ⟨(ho x hx).1, (ho x hx).2 h7⟩) hn hn2).mono ?_
    rintro e w' ⟨rfl, hb', F', X', hk', hft, hno', hc⟩
    refine ⟨rfl, fun i => i = O ∨ F' i, X', .inr (.inl ⟨h7, K, s, F', hb', hk', hno', fun _ => Iff.rfl⟩), hft.fo' hF (fun _ => Iff.rfl), fun _ => ?_⟩
    unfold sN
    rw [if_pos h7]
    exact hc
  · refine (oloadR hb hk hno hl (fun q e e2 => hv q e ((hF q).2 (.inr e2))) (fun x hx => ⟨(ho x hx).1, fun e => by omega⟩) hn hn2).mono ?_
    rintro e w' ⟨rfl, hb', F', X', hk', hft, hno', hc⟩
    refine ⟨rfl, fun i => i = O ∨ F' i, X', .inr (.inr ⟨h6, K, s, F', hb', hk', hno', fun _ => Iff.rfl⟩), hft.fo' hF (fun _ => Iff.rfl), fun _ => ?_⟩
    unfold sN
    rw [if_neg (by omega)]
    exact hc
theorem OpAt.late {W : World} {nd : J.Nd} {O n : Nat} {F : Nat → Prop} {X : List Pn} {g d : Int} (h : OpAt W nd O n F X g d) : Calls Tryz.prog 20 #[.pointer (some ⟨O, 0, none⟩)] W fun e w' => e = .returned (.int .i64 d) ∧ Below W.heap.size W w' := by
  rcases h with ⟨h6, h7, ⟨e', so, hw, hF⟩, rfl, rfl⟩ | ⟨h7, K, s, Fk, hb, hk, hno, hF⟩ | ⟨h6, K, s, Fk, hb, hk, hno, hF⟩
  · exact so.late
  · refine (olateW hb hk hno).mono ?_
    rintro e w' ⟨rfl, rfl⟩
    exact ⟨rfl, Below.refl _ _⟩
  · refine (olateR hb hk hno).mono ?_
    rintro e w' ⟨rfl, rfl⟩
    exact ⟨rfl, Below.refl _ _⟩
theorem New_op {w : World} {nd : J.Nd} (hin : J.In w nd.e) (hok : NdOk nd) : Calls Tryz.prog 10 #[nd.val] w fun r w' => ∃ O F, r = .returned (.pointer (some ⟨O, 0, none⟩)) ∧ OpAt w' nd O 0 F [] (-9223372036854775808) 0 ∧ (∀ i, F i → w.heap.size ≤ i) ∧ Below w.heap.size w w' := by
  by_cases h7 : nd.kind = 7
  · obtain ⟨kind, ia, ic, ins, par, ⟨op, nn, ea, ec, el⟩, ag, k, size, slide⟩ := nd
    simp only at h7
    subst h7
    refine (New_win w ia ins.length ic par op nn ea el.length ec k size slide ag).mono ?_
    rintro r w' ⟨O, K, s, fp, rfl, ow, hf, hb⟩
    refine ⟨O, fun i => i = O ∨ FK K (.slice none 0 0) fp i, rfl, .inr (.inl ⟨rfl, K, s, FK K (.slice none 0 0) fp, ow.ob, ⟨fp, [], [], _, ⟨ow.kb, .inl rfl, ow.sa, Row.nil _ _ _ _ _, ow.nk, (fun q e => by cases e), (fun x hx => by cases hx), fun _ => rfl⟩, ⟨Comes.nil, List.Pairwise.nil, Nat.zero_le _, (fun _ x hx => by cases hx), fun _ => rfl⟩, fun _ => Iff.rfl⟩, ?_, fun _ => Iff.rfl⟩), fun i hi => ?_, hb⟩
    · rintro (e | e | e)
      · exact ow.nok e
      · cases e
      · exact ow.no e
    · rcases hi with rfl | rfl | e | e
      · exact hf _ (.inl rfl)
      · exact hf _ (.inr (.inl rfl))
      · cases e
      · exact hf i (.inr (.inr e))
  · by_cases h6 : nd.kind = 6
    · obtain ⟨kind, ia, ic, ins, par, ⟨op, nn, ea, ec, el⟩, ag, k, size, slide⟩ := nd
      simp only at h6
      subst h6
      refine (New_red w ia ins.length ic par op nn ea el.length ec k size slide ag).mono ?_
      rintro r w' ⟨O, K, s, fp, rfl, ob, kb, sa, no, nk, hf, hb⟩
      refine ⟨O, fun i => i = O ∨ FK K (.slice none 0 0) fp i, rfl, .inr (.inr ⟨rfl, K, s, FK K (.slice none 0 0) fp, ob, ⟨fp, [], [], _, ⟨kb, .inr rfl, sa, Row.nil _ _ _ _ _, nk, (fun q e => by cases e), (fun x hx => by cases hx), fun _ => rfl⟩, ⟨Comes.nil, List.Pairwise.nil, Nat.zero_le _, (fun _ x hx => by cases hx), fun _ => rfl⟩, fun _ => Iff.rfl⟩, ?_, fun _ => Iff.rfl⟩), fun i hi => ?_, hb⟩
      · rintro (e | e | e)
        · exact BoxT.ne' ob kb (by decide) e
        · cases e
        · exact no e
      · rcases hi with rfl | rfl | e | e
        · exact hf _ (.inl rfl)
        · exact hf _ (.inr (.inl rfl))
        · cases e
        · exact hf i (.inr (.inr e))
    · refine (New_st hin hok.few ⟨h6, h7⟩).mono ?_
      rintro r w' ⟨O, e', rfl, so, hw, hO, hfar, hb⟩
      exact ⟨O, FS O e', rfl, .inl ⟨h6, h7, ⟨e', so, hw, fun _ => Iff.rfl⟩, rfl, rfl⟩, FS.new hO hfar, hb⟩

end Go.Proofs.YtpcbhcdpegbfjaaGreat
/-
  Two operators of one node side by side.
-/
namespace Go.Proofs.YtpcbhcdpegbfjaaGreat
open Go.RowKit


theorem lseg_nil {α : Type} {sz : Nat} {cs : α → List Value} {B B' : Nat} {w w' : World} {v : Value} {xs : List α} (h : LSeg sz cs B w v xs) (hx : xs = []) : LSeg sz cs B' w' v xs := by
  obtain ⟨ao, cap, e, h2, _⟩ := h
  exact ⟨ao, cap, e, h2, .inl hx⟩
structure HW (w W : World) (nd : J.Nd) (O1 O2 n : Nat) (F1 F2 : Nat → Prop) (X1 X2 : List Pn) (g1 g2 d1 d2 : Int) : Prop where
  a : OpAt W nd O1 n F1 X1 g1 d1
  b : OpAt W nd O2 n F2 X2 g2 d2
  ap : ∀ i, F1 i → ¬ F2 i
  f1 : ∀ i, F1 i → w.heap.size ≤ i
  f2 : ∀ i, F2 i → w.heap.size ≤ i
  bl : Below w.heap.size w W
section
variable {w W W' : World} {nd : J.Nd} {O1 O2 n : Nat} {F1 F2 : Nat → Prop} {X1 X2 : List Pn} {g1 g2 d1 d2 : Int}
theorem HW.below (h : HW w W nd O1 O2 n F1 F2 X1 X2 g1 g2 d1 d2) (hb : Below W.heap.size W W') : HW w W' nd O1 O2 n F1 F2 X1 X2 g1 g2 d1 d2 :=
  ⟨h.a.below hb, h.b.below hb, h.ap, h.f1, h.f2, h.bl.trans (hb.mono h.bl.size)⟩
theorem HW.turnA {F' : Nat → Prop} {X' : List Pn} {n' : Nat} {g' d' : Int} (h : HW w W nd O1 O2 n F1 F2 X1 X2 g1 g2 d1 d2) (ha : OpAt W' nd O1 n' F' X' g' d') (hn : n ≤ n') (hf : FT F1 F' W W') : HW w W' nd O1 O2 n' F' F2 X' X2 g' g2 d' d2 :=
  ⟨ha, (h.b.beside hf (fun i h2 h1 => h.ap i h1 h2)).more hn, fun i h1 h2 => by
    rcases hf.sub i h1 with e | e
    · exact h.ap i e h2
    · have := h.b.flt i h2; omega, fun i h1 => by
    rcases hf.sub i h1 with e | e
    · exact h.f1 i e
    · have := h.bl.size; omega, h.f2, h.bl.trans (hf.below h.bl.size h.f1)⟩
theorem HW.turnB {F' : Nat → Prop} {X' : List Pn} {n' : Nat} {g' d' : Int} (h : HW w W nd O1 O2 n F1 F2 X1 X2 g1 g2 d1 d2) (hb : OpAt W' nd O2 n' F' X' g' d') (hn : n ≤ n') (hf : FT F2 F' W W') : HW w W' nd O1 O2 n' F1 F' X1 X' g1 g' d1 d' :=
  ⟨(h.a.beside hf h.ap).more hn, hb, fun i h1 h2 => by
    rcases hf.sub i h2 with e | e
    · exact h.ap i h1 e
    · have := h.a.flt i h1; omega, h.f1, fun i h2 => by
    rcases hf.sub i h2 with e | e
    · exact h.f2 i e
    · have := h.bl.size; omega, h.bl.trans (hf.below h.bl.size h.f2)⟩
theorem HW.recA (h : HW w W nd O1 O2 n F1 F2 X1 X2 g1 g2 d1 d2) (hok : NdOk nd) (r : Rc) (hrk : In64 r.k) (hrv : In64 r.v) (ht : TimeOk r.t) (hn : n ≤ 70000) : Calls Tryz.prog 14 #[.pointer (some ⟨O1, 0, none⟩), .agg #[.int .i64 r.k, .int .i64 r.t, .int .i64 r.v]] W fun e w' => ∃ u F' X' d', e = .returned u ∧ LSeg 3 Rc.cs w'.heap.size w' u (outR nd r) ∧ HW w w' nd O1 O2 (n + 64) F' F2 X' X2 g1 g2 d' d2 ∧ Comes (sN nd) (jn nd.agg) (FrN nd g1 r ++ X1) X' := by
  refine (h.a.record hok r hrk hrv ht hn).mono ?_
  rintro e w' ⟨u, F', X', d', rfl, hl, ho, hf, hc, _, _⟩
  exact ⟨u, F', X', d', rfl, hl, h.turnA ho (by omega) hf, hc⟩
theorem HW.recB (h : HW w W nd O1 O2 n F1 F2 X1 X2 g1 g2 d1 d2) (hok : NdOk nd) (r : Rc) (hrk : In64 r.k) (hrv : In64 r.v) (ht : TimeOk r.t) (hn : n ≤ 70000) {v : Value} (hx : LSeg 3 Rc.cs W.heap.size W v (outR nd r)) : Calls Tryz.prog 14 #[.pointer (some ⟨O2, 0, none⟩), .agg #[.int .i64 r.k, .int .i64 r.t, .int .i64 r.v]] W fun e w' => ∃ u F' X' d', e = .returned u ∧ LSeg 3 Rc.cs w'.heap.size w' u (outR nd r) ∧ LSeg 3 Rc.cs w'.heap.size w' v (outR nd r) ∧ HW w w' nd O1 O2 (n + 64) F1 F' X1 X' g1 g2 d1 d' ∧ Comes (sN nd) (jn nd.agg) (FrN nd g2 r ++ X2) X' := by
  refine (h.b.record hok r hrk hrv ht hn).mono ?_
  rintro e w' ⟨u, F', X', d', rfl, hl, ho, hf, hc, _, hs⟩
  refine ⟨u, F', X', d', rfl, hl, ?_, h.turnB ho (by omega) hf, hc⟩
  by_cases hk : nd.kind = 6 ∨ nd.kind = 7
  · exact lseg_nil hx (by unfold outR; rw [if_pos hk])
  · have hb := hs (fun e => hk (.inl e)) (fun e => hk (.inr e))
    exact (hx.below hb).mono hb.size
theorem HW.recB2 {m : Nat} (h : HW w W nd O1 O2 (m + 64) F1 F2 X1 X2 g1 g2 d1 d2) (hok : NdOk nd) (r : Rc) (hrk : In64 r.k) (hrv : In64 r.v) (ht : TimeOk r.t) (hn : m ≤ 69000) {v : Value} (hx : LSeg 3 Rc.cs W.heap.size W v (outR nd r)) : Calls Tryz.prog 14 #[.pointer (some ⟨O2, 0, none⟩), .agg #[.int .i64 r.k, .int .i64 r.t, .int .i64 r.v]] W fun e w' => ∃ u F' X' d', e = .returned u ∧ LSeg 3 Rc.cs w'.heap.size w' u (outR nd r) ∧ LSeg 3 Rc.cs w'.heap.size w' v (outR nd r) ∧ HW w w' nd O1 O2 (m + 64 + 64) F1 F' X1 X' g1 g2 d1 d' ∧ Comes (sN nd) (jn nd.agg) (FrN nd g2 r ++ X2) X' := h.recB hok r hrk hrv ht (by omega) hx
theorem HW.more {n' : Nat} (h : HW w W nd O1 O2 n F1 F2 X1 X2 g1 g2 d1 d2) (hn : n ≤ n') : HW w W nd O1 O2 n' F1 F2 X1 X2 g1 g2 d1 d2 := ⟨h.a.more hn, h.b.more hn, h.ap, h.f1, h.f2, h.bl⟩
theorem HW.markA (h : HW w W nd O1 O2 n F1 F2 X1 X2 g1 g2 d1 d2) (hn : n ≤ 70000) (m : Int) : Calls Tryz.prog 16 #[.pointer (some ⟨O1, 0, none⟩), .int .i64 m] W fun e w' => ∃ u F', e = .returned u ∧ LSeg 3 Rc.cs w'.heap.size w' u (outMk nd g1 m X1) ∧ (∀ q, u.ownBlock = some q → ¬ F2 q) ∧ HW w w' nd O1 O2 n F' F2 (leftMk nd g1 m X1) X2 (max g1 m) g2 d1 d2 := by
  refine (h.a.mark hn m).mono ?_
  rintro e w' ⟨u, F', rfl, hl, ho, hf, hq⟩
  exact ⟨u, F', rfl, hl, fun q e e2 => by have := hq q e; have := h.b.flt q e2; omega, h.turnA ho (Nat.le_refl _) hf⟩
theorem HW.markB (h : HW w W nd O1 O2 n F1 F2 X1 X2 g1 g2 d1 d2) (hn : n ≤ 70000) (m : Int) {v : Value} {L : List Rc} (hx : LSeg 3 Rc.cs W.heap.size W v L) (hv : ∀ q, v.ownBlock = some q → ¬ F2 q) : Calls Tryz.prog 16 #[.pointer (some ⟨O2, 0, none⟩), .int .i64 m] W fun e w' => ∃ u F', e = .returned u ∧ LSeg 3 Rc.cs w'.heap.size w' u (outMk nd g2 m X2) ∧ LSeg 3 Rc.cs w'.heap.size w' v L ∧ HW w w' nd O1 O2 n F1 F' X1 (leftMk nd g2 m X2) g1 (max g2 m) d1 d2 := by
  refine (h.b.mark hn m).mono ?_
  rintro e w' ⟨u, F', rfl, hl, ho, hf, hq⟩
  refine ⟨u, F', rfl, hl, ?_, h.turnB ho (Nat.le_refl _) hf⟩
  obtain ⟨ao, cap, rfl, h2, h4⟩ := hx
  refine ⟨ao, cap, rfl, h2, ?_⟩
  rcases h4 with h4 | ⟨b, off, rfl, h6, h7⟩
  · exact .inl h4
  · refine .inr ⟨b, off, rfl, by have := hf.size; omega, fun i x hi j u hu => ?_⟩
    have h9 := hf.block b h6 (hv b rfl)
    have h8 := h7 i x hi j u hu
    simp only [World.cell?, h9] at *
    exact h8
theorem HW.markB0 (h : HW w W nd O1 O2 n F1 F2 X1 X2 g1 g2 d1 d2) (hn : n ≤ 70000) (m : Int) : Calls Tryz.prog 16 #[.pointer (some ⟨O2, 0, none⟩), .int .i64 m] W fun e w' => ∃ u F', e = .returned u ∧ HW w w' nd O1 O2 n F1 F' X1 (leftMk nd g2 m X2) g1 (max g2 m) d1 d2 := by
  refine (h.b.mark hn m).mono ?_
  rintro e w' ⟨u, F', rfl, hl, ho, hf, hq⟩
  exact ⟨u, F', rfl, h.turnB ho (Nat.le_refl _) hf⟩
theorem HW.panA (h : HW w W nd O1 O2 n F1 F2 X1 X2 g1 g2 d1 d2) (hn : n ≤ 70000) : Calls Tryz.prog 19 #[.pointer (some ⟨O1, 0, none⟩)] W fun e w' => ∃ u F', e = .returned u ∧ LSeg 4 Pn.cs w'.heap.size w' u (srt X1) ∧ (∀ q, u.ownBlock = some q → ¬ F2 q) ∧ HW w w' nd O1 O2 n F' F2 X1 X2 g1 g2 d1 d2 := by
  refine (h.a.panes hn).mono ?_
  rintro e w' ⟨u, F', rfl, hl, hq, ho, hf⟩
  exact ⟨u, F', rfl, hl, fun q e e2 => by have := hq q e; have := h.b.flt q e2; omega, h.turnA ho (Nat.le_refl _) hf⟩
theorem HW.panB (h : HW w W nd O1 O2 n F1 F2 X1 X2 g1 g2 d1 d2) (hn : n ≤ 70000) {v : Value} {L : List Pn} (hx : LSeg 4 Pn.cs W.heap.size W v L) (hv : ∀ q, v.ownBlock = some q → ¬ F2 q) : Calls Tryz.prog 19 #[.pointer (some ⟨O2, 0, none⟩)] W fun e w' => ∃ u F', e = .returned u ∧ LSeg 4 Pn.cs w'.heap.size w' u (srt X2) ∧ LSeg 4 Pn.cs w'.heap.size w' v L ∧ HW w w' nd O1 O2 n F1 F' X1 X2 g1 g2 d1 d2 := by
  refine (h.b.panes hn).mono ?_
  rintro e w' ⟨u, F', rfl, hl, hq, ho, hf⟩
  refine ⟨u, F', rfl, hl, ?_, h.turnB ho (Nat.le_refl _) hf⟩
  obtain ⟨ao, cap, rfl, h2, h4⟩ := hx
  refine ⟨ao, cap, rfl, h2, ?_⟩
  rcases h4 with h4 | ⟨b, off, rfl, h6, h7⟩
  · exact .inl h4
  · refine .inr ⟨b, off, rfl, by have := hf.size; omega, fun i x hi j u hu => ?_⟩
    have h9 := hf.block b h6 (hv b rfl)
    have h8 := h7 i x hi j u hu
    simp only [World.cell?, h9] at *
    exact h8
end
theorem OpAt.nil {W : World} {nd : J.Nd} {O n : Nat} {F : Nat → Prop} {X : List Pn} {g d : Int} (h : OpAt W nd O n F X g d) (h6 : nd.kind ≠ 6) (h7 : nd.kind ≠ 7) : X = [] := by
  rcases h with ⟨_, _, _, e, _⟩ | ⟨e, _⟩ | ⟨e, _⟩
  · exact e
  · exact absurd e h7
  · exact absurd e h6
def HlPost (w : World) (nd : J.Nd) (O1 O2 n : Nat) (F1 : Nat → Prop) (X1 : List Pn) (g1 g2 d1 d2 : Int) (e : Ending) (w' : World) : Prop :=
  e = .returned (.tuple #[]) ∧ ∃ F' X', HW w w' nd O1 O2 n F1 F' X1 X' g1 g2 d1 d2 ∧ X1.Perm X'
theorem HW.loadB {w W : World} {nd : J.Nd} {O1 O2 n : Nat} {F1 F2 : Nat → Prop} {X1 X2 : List Pn} {g1 g2 d1 d2 : Int} (h : HW w W nd O1 O2 n F1 F2 X1 X2 g1 g2 d1 d2) (hn : n ≤ 70000) {v : Value} (hx : LSeg 4 Pn.cs W.heap.size W v (srt X1)) (hv : ∀ q, v.ownBlock = some q → ¬ F2 q) : Calls Tryz.prog 18 #[.pointer (some ⟨O2, 0, none⟩), v] W (HlPost w nd O1 O2 n F1 X1 g1 g2 d1 d2) := by
  have hp := srt_perm X1
  refine (h.b.load hx hv (fun x hx => h.a.okX x (hp.mem_iff.1 hx)) (by rw [srt_len]; exact h.a.len) hn).mono ?_
  rintro e w' ⟨rfl, F', X', ho, hf, hc⟩
  refine ⟨rfl, F', X', h.turnB ho (Nat.le_refl _) hf, ?_⟩
  by_cases hk : nd.kind = 6 ∨ nd.kind = 7
  · exact hp.symm.trans ((hc hk).self (h.a.apart.perm hp.symm))
  · rw [h.a.nil (fun e => hk (.inl e)) (fun e => hk (.inr e)), ho.nil (fun e => hk (.inl e)) (fun e => hk (.inr e))]
theorem rec_perm {nd : J.Nd} {g : Int} {r : Rc} {X1 X2 Y1 Y2 : List Pn} (h : X1.Perm X2) (h1 : Comes (sN nd) (jn nd.agg) (FrN nd g r ++ X1) Y1) (h2 : Comes (sN nd) (jn nd.agg) (FrN nd g r ++ X2) Y2) : Y1.Perm Y2 :=
  Comes.unique (jn_comm _) (jn_assoc _) h1 (h2.perm ((List.Perm.refl _).append h.symm) (.refl _))
theorem leftMk_nil (nd : J.Nd) (g m : Int) : leftMk nd g m [] = [] := by
  unfold leftMk leftG leftK leftF
  split
  · split
    · rfl
    · split <;> simp
  · split
    · split
      · rfl
      · split <;> simp
    · rfl

end Go.Proofs.YtpcbhcdpegbfjaaGreat
/-
  The law OpsHalves, walked.
-/
namespace Go.Proofs.YtpcbhcdpegbfjaaGreat
open Go.RowKit


structure JI (p i : Nat) (X1 X2 : List Pn) (g g2 : Int) : Prop where
  lo : -9223372036854775808 ≤ g
  pre : i ≤ p → X2 = [] ∧ g2 = -9223372036854775808
  post : p < i → X1.Perm X2 ∧ g2 = g
set_option maxHeartbeats 16000000 in
set_option maxRecDepth 100000 in
theorem OpsHalves_walk {w : World} {v : Value} {xs : List Stp} (hl : LSeg 5 Stp.cs w.heap.size w v xs) (hrs : ∀ r ∈ xs, In64 r.rk ∧ In64 r.rv) {n : J.Nd} (hi : n.ins.length ≤ 140737488355328) (hE : J.In w n.e) (at0 : Int) :
    Calls Tryz.prog 5 #[n.val, v, .int .i64 at0] w fun e w' => e = .returned (.bool true) ∧ Below w.heap.size w w' := by
  obtain ⟨ao, cap, rfl⟩ := hl.shapeOf
  have HFT := hide (fun (W : World) (hb : Below w.heap.size w W) => J.fitO_any (w := W) hi (hE.below hb))
  have HNW := hide (fun (W : World) (hb : Below w.heap.size w W) (hok : NdOk n) => New_op (w := W) (nd := n) (hE.below hb) hok)
  have HOKF := hide (fun (h : n.kind ≠ 1 → n.kind ≠ 8 → J.FtO n) => NdOk.of h)
  have HK := hide (fun W => known_any W)
  have HL := hide hl
  have HRS := hide hrs
  clear hl hE hi hrs
  obtain ⟨nd, hnd⟩ : ∃ nd, nd = n := ⟨_, rfl⟩
  have HND := hide hnd
  have hval : n.val = nd.val := by rw [hnd]
  rw [← hnd] at HFT HNW HOKF
  rw [hval]
  clear hval hnd
  obtain ⟨kind, ia, ic, ins, par, ex, ag, k, size, slide⟩ := n
  obtain ⟨op, nn, ea, ec, el⟩ := ex
  have hv : nd.val = .agg #[.int .i64 kind, .slice ia ins.length ic, .int .i64 par, .int .i64 op, .int .i64 nn, .slice ea el.length ec, .int .i64 ag, .int .i64 k, .int .i64 size, .int .i64 slide] := by rw [HND.out]; rfl
  rw [hv] at HFT HNW ⊢
  clear hv HND
  generalize ins.length = il at *
  generalize el.length = en at *
  have HB0 := hide (below_box w (.cells #[.int .i64 kind, .slice ia il ic, .int .i64 par, .int .i64 op, .int .i64 nn, .slice ea en ec, .int .i64 ag, .int .i64 k, .int .i64 size, .int .i64 slide] 29))
  have HBX := hide (BoxT.new 29 w #[.int .i64 kind, .slice ia il ic, .int .i64 par, .int .i64 op, .int .i64 nn, .slice ea en ec, .int .i64 ag, .int .i64 k, .int .i64 size, .int .i64 slide])
  by_cases hn80 : 80 < xs.length
  · have bn : (80 : Int) < (xs.length : Int) := by omega
    go_enter Tryz.func5, Tryz.ntmps5
    go_upto_region 3 with (go_at_call 8; refine (HK.out _).mono ?_; rintro e w1 ⟨rfl, b1⟩; have HB1 := hide (HB0.out.trans (b1.mono HB0.out.size)); have HX1 := hide (BoxT.below (t := 29) HBX.out b1); have HFN := hide (HFT.out w1 HB1.out); clear b1)
    have y0 : w1.cell? ⟨w.heap.size, 0, none⟩ = _ := HX1.out.cellAt 0
    have y1 : w1.cell? ⟨w.heap.size, 1, none⟩ = _ := HX1.out.cellAt 1
    have y2 : w1.cell? ⟨w.heap.size, 2, none⟩ = _ := HX1.out.cellAt 2
    have y3 : w1.cell? ⟨w.heap.size, 3, none⟩ = _ := HX1.out.cellAt 3
    have y4 : w1.cell? ⟨w.heap.size, 4, none⟩ = _ := HX1.out.cellAt 4
    have y5 : w1.cell? ⟨w.heap.size, 5, none⟩ = _ := HX1.out.cellAt 5
    have y6 : w1.cell? ⟨w.heap.size, 6, none⟩ = _ := HX1.out.cellAt 6
    have y7 : w1.cell? ⟨w.heap.size, 7, none⟩ = _ := HX1.out.cellAt 7
    have y8 : w1.cell? ⟨w.heap.size, 8, none⟩ = _ := HX1.out.cellAt 8
    have y9 : w1.cell? ⟨w.heap.size, 9, none⟩ = _ := HX1.out.cellAt 9
    go_wp2_with (go_at_call 9; refine HFN.out.mono ?_; rintro e w2 ⟨b, rfl, hb, b2⟩; have HB2 := hide (HB1.out.trans (b2.mono HB1.out.size)); clear b2 hb y0 y1 y2 y3 y4 y5 y6 y7 y8 y9; cases b)
    all_goals
      go_ret
      exact ⟨rfl, HB2.out⟩
  have bn : ¬ (80 : Int) < (xs.length : Int) := by omega
  go_enter Tryz.func5, Tryz.ntmps5
  go_upto_region 3 with (go_at_call 8; refine (HK.out _).mono ?_; rintro e w1 ⟨rfl, b1⟩; have HB1 := hide (HB0.out.trans (b1.mono HB0.out.size)); have HX1 := hide (BoxT.below (t := 29) HBX.out b1); have HFN := hide (HFT.out w1 HB1.out); clear b1)
  have y0 : w1.cell? ⟨w.heap.size, 0, none⟩ = _ := HX1.out.cellAt 0
  have y1 : w1.cell? ⟨w.heap.size, 1, none⟩ = _ := HX1.out.cellAt 1
  have y2 : w1.cell? ⟨w.heap.size, 2, none⟩ = _ := HX1.out.cellAt 2
  have y3 : w1.cell? ⟨w.heap.size, 3, none⟩ = _ := HX1.out.cellAt 3
  have y4 : w1.cell? ⟨w.heap.size, 4, none⟩ = _ := HX1.out.cellAt 4
  have y5 : w1.cell? ⟨w.heap.size, 5, none⟩ = _ := HX1.out.cellAt 5
  have y6 : w1.cell? ⟨w.heap.size, 6, none⟩ = _ := HX1.out.cellAt 6
  have y7 : w1.cell? ⟨w.heap.size, 7, none⟩ = _ := HX1.out.cellAt 7
  have y8 : w1.cell? ⟨w.heap.size, 8, none⟩ = _ := HX1.out.cellAt 8
  have y9 : w1.cell? ⟨w.heap.size, 9, none⟩ = _ := HX1.out.cellAt 9
  have hpl := fun w' => hPlace_any w' at0 (n := (xs.length : Int) + 1) (by omega) (by omega)
  have hpi := plc_in (i := at0) (n := (xs.length : Int) + 1) (by omega)
  obtain ⟨p, hp⟩ : ∃ p : Nat, plc at0 ((xs.length : Int) + 1) = (p : Int) := ⟨(plc at0 ((xs.length : Int) + 1)).toNat, by omega⟩
  rw [hp] at hpi
  simp only [hp] at hpl
  have HPL := hide hpl
  have HPI := hide hpi
  clear hpl hpi hp
  go_upto_region 5 with (go_at_call 9; refine HFN.out.mono ?_; rintro e w2 ⟨b, rfl, hb, b2⟩; have HB2 := hide (HB1.out.trans (b2.mono HB1.out.size)); have HX2 := hide (BoxT.below (t := 29) HX1.out b2); have HF := hide hb; clear b2 hb y0 y1 y2 y3 y4 y5 y6 y7 y8 y9; cases b)
  all_goals clear HFN HFT HK HX1 HB1 HBX HB0
  · go_ret
    exact ⟨rfl, HB2.out⟩
  have HOK := hide (HOKF.out (HF.out trivial))
  clear HF HOKF
  go_upto_region 6 with (go_at_call 23; refine (HPL.out _).mono ?_; rintro e w3 ⟨rfl, e3⟩; have e4 := e3.symm; subst e4)
  have HX3 := HX2
  have BD : Hid (Below w2.heap.size w2 w2.drew) := (Below.refl _ _).drew
  have HXD := hide (BoxT.below (t := 29) HX2.out BD.out)
  have HBD := hide (HB2.out.drew)
  have HN1 := hide (HNW.out w2.drew HBD.out HOK.out)
  have y0 : w2.drew.cell? ⟨w.heap.size, 0, none⟩ = _ := HXD.out.cellAt 0
  have y1 : w2.drew.cell? ⟨w.heap.size, 1, none⟩ = _ := HXD.out.cellAt 1
  have y2 : w2.drew.cell? ⟨w.heap.size, 2, none⟩ = _ := HXD.out.cellAt 2
  have y3 : w2.drew.cell? ⟨w.heap.size, 3, none⟩ = _ := HXD.out.cellAt 3
  have y4 : w2.drew.cell? ⟨w.heap.size, 4, none⟩ = _ := HXD.out.cellAt 4
  have y5 : w2.drew.cell? ⟨w.heap.size, 5, none⟩ = _ := HXD.out.cellAt 5
  have y6 : w2.drew.cell? ⟨w.heap.size, 6, none⟩ = _ := HXD.out.cellAt 6
  have y7 : w2.drew.cell? ⟨w.heap.size, 7, none⟩ = _ := HXD.out.cellAt 7
  have y8 : w2.drew.cell? ⟨w.heap.size, 8, none⟩ = _ := HXD.out.cellAt 8
  have y9 : w2.drew.cell? ⟨w.heap.size, 9, none⟩ = _ := HXD.out.cellAt 9
  go_region_held3 (fun w' => w'.cell? ⟨w.heap.size, 0, none⟩ = some (.int .i64 kind) ∧ w'.cell? ⟨w.heap.size, 1, none⟩ = some (.slice ia il ic) ∧ w'.cell? ⟨w.heap.size, 2, none⟩ = some (.int .i64 par) ∧ w'.cell? ⟨w.heap.size, 3, none⟩ = some (.int .i64 op) ∧ w'.cell? ⟨w.heap.size, 4, none⟩ = some (.int .i64 nn) ∧ w'.cell? ⟨w.heap.size, 5, none⟩ = some (.slice ea en ec) ∧ w'.cell? ⟨w.heap.size, 6, none⟩ = some (.int .i64 ag) ∧ w'.cell? ⟨w.heap.size, 7, none⟩ = some (.int .i64 k) ∧ w'.cell? ⟨w.heap.size, 8, none⟩ = some (.int .i64 size) ∧ w'.cell? ⟨w.heap.size, 9, none⟩ = some (.int .i64 slide)) (first | go_keep | exact ⟨y0, y1, y2, y3, y4, y5, y6, y7, y8, y9⟩ | exact ⟨z0, z1, z2, z3, z4, z5, z6, z7, z8, z9⟩ | exact ⟨q0, q1, q2, q3, q4, q5, q6, q7, q8, q9⟩)
    (first
    | (go_at_call 10; have chk := HA3; clear chk; refine HN2.out.mono ?_; rintro e w4 ⟨O2, F2, rfl, o4, f4, b4⟩; have HB4 := hide (HB3.out.trans (b4.mono HB3.out.size)); have HX4 := hide (BoxT.below (t := 29) HX3'.out b4); have HS0 : Hid (HW w w4 nd O1 O2 0 F1 F2 [] [] (-9223372036854775808) (-9223372036854775808) 0 0) := (show HW _ _ _ _ _ _ _ _ _ _ _ _ _ _ from ⟨HA3.out.below b4, o4, fun i h1 h2 => by have := HA3.out.flt i h1; have := f4 i h2; omega, fun i h1 => by have := HF3.out i h1; have := HBD.out.size; omega, fun i h2 => by have := f4 i h2; have := HB3.out.size; omega, HB4.out⟩); have q0 : w4.cell? ⟨w.heap.size, 0, none⟩ = _ := HX4.out.cellAt 0; have q1 : w4.cell? ⟨w.heap.size, 1, none⟩ = _ := HX4.out.cellAt 1; have q2 : w4.cell? ⟨w.heap.size, 2, none⟩ = _ := HX4.out.cellAt 2; have q3 : w4.cell? ⟨w.heap.size, 3, none⟩ = _ := HX4.out.cellAt 3; have q4 : w4.cell? ⟨w.heap.size, 4, none⟩ = _ := HX4.out.cellAt 4; have q5 : w4.cell? ⟨w.heap.size, 5, none⟩ = _ := HX4.out.cellAt 5; have q6 : w4.cell? ⟨w.heap.size, 6, none⟩ = _ := HX4.out.cellAt 6; have q7 : w4.cell? ⟨w.heap.size, 7, none⟩ = _ := HX4.out.cellAt 7; have q8 : w4.cell? ⟨w.heap.size, 8, none⟩ = _ := HX4.out.cellAt 8; have q9 : w4.cell? ⟨w.heap.size, 9, none⟩ = _ := HX4.out.cellAt 9; clear o4 f4 b4)
    | (go_at_call 10; refine HN1.out.mono ?_; rintro e w3 ⟨O1, F1, rfl, o3, f3, b3⟩; have HA3 := hide o3; have HF3 := hide f3; have HB3 := hide (HBD.out.trans (b3.mono HBD.out.size)); have HX3' := hide (BoxT.below (t := 29) HXD.out b3); have HN2 := hide (HNW.out w3 HB3.out HOK.out); have z0 : w3.cell? ⟨w.heap.size, 0, none⟩ = _ := HX3'.out.cellAt 0; have z1 : w3.cell? ⟨w.heap.size, 1, none⟩ = _ := HX3'.out.cellAt 1; have z2 : w3.cell? ⟨w.heap.size, 2, none⟩ = _ := HX3'.out.cellAt 2; have z3 : w3.cell? ⟨w.heap.size, 3, none⟩ = _ := HX3'.out.cellAt 3; have z4 : w3.cell? ⟨w.heap.size, 4, none⟩ = _ := HX3'.out.cellAt 4; have z5 : w3.cell? ⟨w.heap.size, 5, none⟩ = _ := HX3'.out.cellAt 5; have z6 : w3.cell? ⟨w.heap.size, 6, none⟩ = _ := HX3'.out.cellAt 6; have z7 : w3.cell? ⟨w.heap.size, 7, none⟩ = _ := HX3'.out.cellAt 7; have z8 : w3.cell? ⟨w.heap.size, 8, none⟩ = _ := HX3'.out.cellAt 8; have z9 : w3.cell? ⟨w.heap.size, 9, none⟩ = _ := HX3'.out.cellAt 9; clear o3 f3 b3)
    | fail)
  clear HN1 HN2 HNW HA3 HF3 HB3 HX3' HX4 HX3 HX2 HXD BD HBD HB2 HB4 HPL y0 y1 y2 y3 y4 y5 y6 y7 y8 y9 z0 z1 z2 z3 z4 z5 z6 z7 z8 z9 q0 q1 q2 q3 q4 q5 q6 q7 q8 q9
  go_wp2_with fail
  go_loopg [9, 10, 11, 12] (xs.length + 1) (fun gh gv iv _ _ wr => ∃ (i : Nat) (g : Int) (F1 F2 : Nat → Prop) (X1 X2 : List Pn) (g2 d1 d2 : Int), gv = .int .i64 g ∧ iv = .int .i64 (i : Int) ∧ i ≤ xs.length ∧ xs.length + 1 ≤ gh + i ∧ Hid (HW w wr nd O1 O2 (128 * i) F1 F2 X1 X2 g g2 d1 d2) ∧ Hid (JI p i X1 X2 g g2))
  case atStart => exact ⟨0, _, F1, F2, [], [], _, 0, 0, rfl, rfl, by omega, by omega, HS0, (show JI _ _ _ _ _ _ from ⟨by omega, fun _ => ⟨rfl, rfl⟩, fun h => by omega⟩)⟩
  case round =>
    clear HS0
    obtain ⟨i, g, F1, F2, X1, X2, g2, d1, d2, rfl, rfl, hi, hg, HS, HJ⟩ := hrel
    obtain ⟨go, rfl⟩ : ∃ go, gk = go + 1 := ⟨gk - 1, by omega⟩
    by_cases hlt : i < xs.length
    · obtain ⟨x, hx⟩ := get_of_lt hlt
      have bt : (i : Int) < (xs.length : Int) := by omega
      obtain ⟨nb, no, rfl, nlt, f0, f1, f2, f3, f4⟩ := HL.out.stp hx
      have HIN := hide (HRS.out x (List.mem_of_getElem? hx))
      obtain ⟨wh, rk, rt, rv, mk⟩ := x
      simp only at f0 f1 f2 f3 f4 HIN
      have E := hide (And.intro nlt (And.intro f0 (And.intro f1 (And.intro f2 (And.intro f3 f4)))))
      clear hx nlt f0 f1 f2 f3 f4
      have HN64 : Hid (128 * i ≤ 70000) := (show _ ≤ _ by omega)
      have HN69 : Hid (128 * i ≤ 69000) := (show _ ≤ _ by omega)
      have CE : Hid (∀ W : World, Below w.heap.size w W → W.cell? ⟨nb, no + i * 5, none⟩ = some (.int .i64 wh) ∧ W.cell? ⟨nb, no + i * 5 + 1, none⟩ = some (.int .i64 rk) ∧ W.cell? ⟨nb, no + i * 5 + 2, none⟩ = some (.int .i64 rt) ∧ W.cell? ⟨nb, no + i * 5 + 3, none⟩ = some (.int .i64 rv) ∧ W.cell? ⟨nb, no + i * 5 + 4, none⟩ = some (.int .i64 mk)) := fun W hW => ⟨(hW.cell (p := ⟨nb, no + i * 5, none⟩) E.out.1).trans E.out.2.1, (hW.cell (p := ⟨nb, no + i * 5 + 1, none⟩) E.out.1).trans E.out.2.2.1, (hW.cell (p := ⟨nb, no + i * 5 + 2, none⟩) E.out.1).trans E.out.2.2.2.1, (hW.cell (p := ⟨nb, no + i * 5 + 3, none⟩) E.out.1).trans E.out.2.2.2.2.1, (hW.cell (p := ⟨nb, no + i * 5 + 4, none⟩) E.out.1).trans E.out.2.2.2.2.2⟩
      clear E
      obtain ⟨e0, e1, e2, e3, e4⟩ := CE.out wr HS.out.bl
      by_cases hT : TimeOk rt
      case neg =>
        have HTI := hide (time_no hT)
        clear hT
        go_wp2_with (go_at_call 12; refine (HTI.out _).mono ?_; rintro e w5 ⟨rfl, e5⟩; have e6 := e5.symm; subst e6)
        go_ret
        exact ⟨rfl, HS.out.bl⟩
      have HTI := hide (time_yes hT)
      have HTO := hide hT
      clear hT
      have hcase : i < p ∨ i = p ∨ p < i := by omega
      rcases hcase with hlp | rfl | hgp
      · have be : ((i : Int) == (p : Int)) = false := by rw [beq_eq_false_iff_ne]; omega
        have bg : ¬ (p : Int) ≤ (i : Int) := by omega
        go_upto_region 17 with (go_at_call 12; refine (HTI.out _).mono ?_; rintro e w5 ⟨rfl, e5⟩; have e6 := e5.symm; subst e6)
        clear e0 e1 e2 e3 e4
        obtain ⟨e0, e1, e2, e3, e4⟩ := CE.out wr HS.out.bl
        by_cases h3 : wh < 3
        · have HRA := hide (HS.out.recA HOK.out ⟨rk, rt, rv⟩ HIN.out.1 HIN.out.2 HTO.out HN64.out)
          go_wp2_with (go_at_call 14; refine HRA.out.mono ?_; rintro e w6 ⟨u6, G1, Y1, c1, rfl, l6, s6, k6⟩; have HS6 := hide s6; clear l6 s6 k6)
          go_roundg go
          case rel => exact ⟨i + 1, g, G1, F2, Y1, X2, g2, c1, d2, rfl, by go_num, by omega, by omega, (show HW _ _ _ _ _ _ _ _ _ _ _ _ _ _ from HS6.out.more (by omega)), (show JI _ _ _ _ _ _ from ⟨HJ.out.lo, fun _ => HJ.out.pre (by omega), fun h => by omega⟩)⟩
          case measure => omega
        · have HMA := hide (HS.out.markA HN64.out mk)
          go_wp2_with (go_at_call 16; refine HMA.out.mono ?_; rintro e w6 ⟨u6, G1, rfl, l6, v6, s6⟩; have HS6 := hide s6; clear l6 s6 v6)
          go_roundg go
          case rel => exact ⟨i + 1, max g mk, G1, F2, _, X2, g2, d1, d2, rfl, by go_num, by omega, by omega, (show HW _ _ _ _ _ _ _ _ _ _ _ _ _ _ from HS6.out.more (by omega)), (show JI _ _ _ _ _ _ from ⟨by have := HJ.out.lo; omega, fun _ => HJ.out.pre (by omega), fun h => by omega⟩)⟩
          case measure => omega
      · have hpre := HJ.out.pre (by omega)
        obtain ⟨rfl, rfl⟩ := hpre
        have HMB0 := hide (HS.out.markB0 HN64.out g)
        rw [leftMk_nil] at HMB0
        have HMX := hide (show max (-9223372036854775808) g = g by have := HJ.out.lo; omega)
        rw [HMX.out] at HMB0
        go_upto_region 17 with (first
          | (go_at_call 12; refine (HTI.out _).mono ?_; rintro e w5 ⟨rfl, e5⟩; have e6 := e5.symm; subst e6)
          | (go_at_call 16; refine HMB0.out.mono ?_; rintro e w11 ⟨u11, G2a, rfl, s11⟩; have HSa := hide s11; have HPAa := hide (HSa.out.panA HN64.out); clear s11)
          | (go_at_call 19; refine HPAa.out.mono ?_; rintro e w12 ⟨u12, G1a, rfl, l12, v12, s12⟩; have HSb := hide s12; have HLD := hide (HSb.out.loadB HN64.out l12 v12); clear l12 v12 s12)
          | (go_at_call 18; refine HLD.out.mono ?_; rintro e w13 ⟨rfl, G2b, X2, s13, p13⟩; have HSc := hide s13; have HQ := hide p13; clear s13 p13))
        clear HS
        have HS := HSc
        have HG2 := hide (show g = g from rfl)
        clear e0 e1 e2 e3 e4 HMB0 HPAa HLD HSa HSb HSc HMX
        obtain ⟨e0, e1, e2, e3, e4⟩ := CE.out w13 HS.out.bl
        by_cases h3 : wh < 3
        · have HRA := hide (HS.out.recA HOK.out ⟨rk, rt, rv⟩ HIN.out.1 HIN.out.2 HTO.out HN64.out)
          go_upto_region 25 with (first
            | (go_at_call 14; refine HRA.out.mono ?_; rintro e w6 ⟨u6, G1, Y1, c1, rfl, l6, s6, k6⟩; have HS6 := hide s6; have L6 := hide l6; have K6 := hide k6; obtain ⟨e0, e1, e2, e3, e4⟩ := CE.out w6 s6.bl; have HRB := hide (HS6.out.recB2 HOK.out ⟨rk, rt, rv⟩ HIN.out.1 HIN.out.2 HTO.out HN69.out L6.out); clear l6 s6 k6)
            | (go_at_call 14; refine HRB.out.mono ?_; rintro e w7 ⟨u7, G2, Y2, c2, rfl, l7, x7, s7, k7⟩; obtain ⟨ua, uc, rfl⟩ := x7.shapeOf; obtain ⟨ub, ud, rfl⟩ := l7.shapeOf; have HS7 := hide s7; have L7 := hide l7; have V7 := hide x7; have K7 := hide k7; clear l7 x7 s7 k7))
          have HPR := hide (rec_perm HQ.out K6.out (by have := K7.out; exact this))
          have HN65 : Hid (128 * i + 64 + 64 ≤ 70000) := (show _ ≤ _ by omega)
          have H13 := hide (hRecords_any V7.out L7.out (by have := outR_len nd ⟨rk, rt, rv⟩; omega))
          clear HRA HRB K6 K7 L6 HS6
          generalize (outR nd ⟨rk, rt, rv⟩).length = on at *
          have HSR := hide (srt_eq HPR.out)
          go_wp2_with (first
            | (go_at_call 13; refine H13.out.mono ?_; rintro e w8 ⟨rfl, b8⟩; have HS8 := hide (HS7.out.below b8); have HPA := hide (HS8.out.panA HN65.out); clear b8)
            | (go_at_call 19; refine HPA.out.mono ?_; rintro e w9 ⟨u9, G9, rfl, l9, v9, s9⟩; have HS9 := hide s9; have L9 := hide l9; have HPB := hide (HS9.out.panB HN65.out l9 v9); clear l9 v9 s9)
            | (go_at_call 19; refine HPB.out.mono ?_; rintro e w10 ⟨u10, G10, rfl, l10, x10, s10⟩; have HS10 := hide s10; have H21 := hide (hPanes_any x10 (by rw [HSR.out]; exact l10) (by rw [srt_len]; have := s10.a.len; have := HN65.out; omega)); clear l10 x10 s10)
            | (go_at_call 21; refine H21.out.mono ?_; rintro e w11 ⟨rfl, b11⟩; have HS11 := hide (HS10.out.below b11); clear b11))
          go_roundg go
          case rel => exact ⟨i + 1, g, G9, G10, Y1, Y2, g, _, _, rfl, by go_num, by omega, by omega, (show HW _ _ _ _ _ _ _ _ _ _ _ _ _ _ from HS11.out.more (by omega)), (show JI _ _ _ _ _ _ from ⟨by have := HJ.out.lo; omega, fun h => by omega, fun _ => ⟨HPR.out, rfl⟩⟩)⟩
          case measure => omega
        · have HMA := hide (HS.out.markA HN64.out mk)
          go_upto_region 25 with (first
            | (go_at_call 16; refine HMA.out.mono ?_; rintro e w6 ⟨u6, G1, rfl, l6, v6, s6⟩; have HS6 := hide s6; have L6 := hide l6; obtain ⟨e0, e1, e2, e3, e4⟩ := CE.out w6 s6.bl; have HMB := hide (HS6.out.markB HN64.out mk l6 v6); clear l6 s6 v6)
            | (go_at_call 16; refine HMB.out.mono ?_; rintro e w7 ⟨u7, G2, rfl, l7, x7, s7⟩; obtain ⟨ua, uc, rfl⟩ := x7.shapeOf; obtain ⟨ub, ud, rfl⟩ := l7.shapeOf; have HS7 := hide s7; have L7 := hide l7; have V7 := hide x7; clear l7 x7 s7))
          have HPR := hide (leftMk_perm (nd := nd) (g := g) (m := mk) HQ.out)
          have HOE := hide (show outMk nd g mk X2 = outMk nd g mk X1 from by exact (outMk_perm HQ.out).symm)
          have H13 := hide (hRecords_any V7.out (by have := L7.out; rw [HOE.out] at this; exact this) (by have := outMk_len nd g mk X1; have := HS.out.a.len; have := HN64.out; omega))
          have HOL := hide (show (outMk nd g mk X2).length = (outMk nd g mk X1).length from by rw [HOE.out])
          clear HMA HMB L6 HS6
          rw [HOL.out] at *
          generalize (outMk nd g mk X1).length = on at *
          have HSR := hide (srt_eq HPR.out)
          go_wp2_with (first
            | (go_at_call 13; refine H13.out.mono ?_; rintro e w8 ⟨rfl, b8⟩; have HS8 := hide (HS7.out.below b8); have HPA := hide (HS8.out.panA HN64.out); clear b8)
            | (go_at_call 19; refine HPA.out.mono ?_; rintro e w9 ⟨u9, G9, rfl, l9, v9, s9⟩; have HS9 := hide s9; have L9 := hide l9; have HPB := hide (HS9.out.panB HN64.out l9 v9); clear l9 v9 s9)
            | (go_at_call 19; refine HPB.out.mono ?_; rintro e w10 ⟨u10, G10, rfl, l10, x10, s10⟩; have HS10 := hide s10; have H21 := hide (hPanes_any x10 (by rw [HSR.out]; exact l10) (by rw [srt_len]; have := s10.a.len; have := HN64.out; omega)); clear l10 x10 s10)
            | (go_at_call 21; refine H21.out.mono ?_; rintro e w11 ⟨rfl, b11⟩; have HS11 := hide (HS10.out.below b11); clear b11))
          go_roundg go
          case rel => exact ⟨i + 1, (max g mk), G9, G10, (leftMk nd g mk X1), (leftMk nd g mk X2), (max g mk), _, _, rfl, by go_num, by omega, by omega, (show HW _ _ _ _ _ _ _ _ _ _ _ _ _ _ from HS11.out.more (by omega)), (show JI _ _ _ _ _ _ from ⟨by have := HJ.out.lo; omega, fun h => by omega, fun _ => ⟨HPR.out, rfl⟩⟩)⟩
          case measure => omega
      · have be : ((i : Int) == (p : Int)) = false := by rw [beq_eq_false_iff_ne]; omega
        have bg : (p : Int) ≤ (i : Int) := by omega
        have HQ := hide (HJ.out.post hgp).1
        have HG2 := hide (HJ.out.post hgp).2
        go_upto_region 17 with (go_at_call 12; refine (HTI.out _).mono ?_; rintro e w5 ⟨rfl, e5⟩; have e6 := e5.symm; subst e6)
        clear e0 e1 e2 e3 e4
        obtain ⟨e0, e1, e2, e3, e4⟩ := CE.out wr HS.out.bl
        by_cases h3 : wh < 3
        · have HRA := hide (HS.out.recA HOK.out ⟨rk, rt, rv⟩ HIN.out.1 HIN.out.2 HTO.out HN64.out)
          go_upto_region 25 with (first
            | (go_at_call 14; refine HRA.out.mono ?_; rintro e w6 ⟨u6, G1, Y1, c1, rfl, l6, s6, k6⟩; have HS6 := hide s6; have L6 := hide l6; have K6 := hide k6; obtain ⟨e0, e1, e2, e3, e4⟩ := CE.out w6 s6.bl; have HRB := hide (HS6.out.recB2 HOK.out ⟨rk, rt, rv⟩ HIN.out.1 HIN.out.2 HTO.out HN69.out L6.out); clear l6 s6 k6)
            | (go_at_call 14; refine HRB.out.mono ?_; rintro e w7 ⟨u7, G2, Y2, c2, rfl, l7, x7, s7, k7⟩; obtain ⟨ua, uc, rfl⟩ := x7.shapeOf; obtain ⟨ub, ud, rfl⟩ := l7.shapeOf; have HS7 := hide s7; have L7 := hide l7; have V7 := hide x7; have K7 := hide k7; clear l7 x7 s7 k7))
          have HPR := hide (rec_perm HQ.out K6.out (by have := K7.out; rw [HG2.out] at this; exact this))
          have HN65 : Hid (128 * i + 64 + 64 ≤ 70000) := (show _ ≤ _ by omega)
          have H13 := hide (hRecords_any V7.out L7.out (by have := outR_len nd ⟨rk, rt, rv⟩; omega))
          clear HRA HRB K6 K7 L6 HS6
          rw [HG2.out] at HS7
          generalize (outR nd ⟨rk, rt, rv⟩).length = on at *
          have HSR := hide (srt_eq HPR.out)
          go_wp2_with (first
            | (go_at_call 13; refine H13.out.mono ?_; rintro e w8 ⟨rfl, b8⟩; have HS8 := hide (HS7.out.below b8); have HPA := hide (HS8.out.panA HN65.out); clear b8)
            | (go_at_call 19; refine HPA.out.mono ?_; rintro e w9 ⟨u9, G9, rfl, l9, v9, s9⟩; have HS9 := hide s9; have L9 := hide l9; have HPB := hide (HS9.out.panB HN65.out l9 v9); clear l9 v9 s9)
            | (go_at_call 19; refine HPB.out.mono ?_; rintro e w10 ⟨u10, G10, rfl, l10, x10, s10⟩; have HS10 := hide s10; have H21 := hide (hPanes_any x10 (by rw [HSR.out]; exact l10) (by rw [srt_len]; have := s10.a.len; have := HN65.out; omega)); clear l10 x10 s10)
            | (go_at_call 21; refine H21.out.mono ?_; rintro e w11 ⟨rfl, b11⟩; have HS11 := hide (HS10.out.below b11); clear b11))
          go_roundg go
          case rel => exact ⟨i + 1, g, G9, G10, Y1, Y2, g, _, _, rfl, by go_num, by omega, by omega, (show HW _ _ _ _ _ _ _ _ _ _ _ _ _ _ from HS11.out.more (by omega)), (show JI _ _ _ _ _ _ from ⟨by have := HJ.out.lo; omega, fun h => by omega, fun _ => ⟨HPR.out, rfl⟩⟩)⟩
          case measure => omega
        · have HMA := hide (HS.out.markA HN64.out mk)
          go_upto_region 25 with (first
            | (go_at_call 16; refine HMA.out.mono ?_; rintro e w6 ⟨u6, G1, rfl, l6, v6, s6⟩; have HS6 := hide s6; have L6 := hide l6; obtain ⟨e0, e1, e2, e3, e4⟩ := CE.out w6 s6.bl; have HMB := hide (HS6.out.markB HN64.out mk l6 v6); clear l6 s6 v6)
            | (go_at_call 16; refine HMB.out.mono ?_; rintro e w7 ⟨u7, G2, rfl, l7, x7, s7⟩; obtain ⟨ua, uc, rfl⟩ := x7.shapeOf; obtain ⟨ub, ud, rfl⟩ := l7.shapeOf; have HS7 := hide s7; have L7 := hide l7; have V7 := hide x7; clear l7 x7 s7))
          have HPR := hide (leftMk_perm (nd := nd) (g := g) (m := mk) HQ.out)
          have HOE := hide (show outMk nd g2 mk X2 = outMk nd g mk X1 from by rw [HG2.out]; exact (outMk_perm HQ.out).symm)
          have H13 := hide (hRecords_any V7.out (by have := L7.out; rw [HOE.out] at this; exact this) (by have := outMk_len nd g mk X1; have := HS.out.a.len; have := HN64.out; omega))
          rw [HG2.out] at HS7
          have HOL := hide (show (outMk nd g2 mk X2).length = (outMk nd g mk X1).length from by rw [HOE.out])
          clear HMA HMB L6 HS6
          rw [HOL.out] at *
          generalize (outMk nd g mk X1).length = on at *
          have HSR := hide (srt_eq HPR.out)
          go_wp2_with (first
            | (go_at_call 13; refine H13.out.mono ?_; rintro e w8 ⟨rfl, b8⟩; have HS8 := hide (HS7.out.below b8); have HPA := hide (HS8.out.panA HN64.out); clear b8)
            | (go_at_call 19; refine HPA.out.mono ?_; rintro e w9 ⟨u9, G9, rfl, l9, v9, s9⟩; have HS9 := hide s9; have L9 := hide l9; have HPB := hide (HS9.out.panB HN64.out l9 v9); clear l9 v9 s9)
            | (go_at_call 19; refine HPB.out.mono ?_; rintro e w10 ⟨u10, G10, rfl, l10, x10, s10⟩; have HS10 := hide s10; have H21 := hide (hPanes_any x10 (by rw [HSR.out]; exact l10) (by rw [srt_len]; have := s10.a.len; have := HN64.out; omega)); clear l10 x10 s10)
            | (go_at_call 21; refine H21.out.mono ?_; rintro e w11 ⟨rfl, b11⟩; have HS11 := hide (HS10.out.below b11); clear b11))
          go_roundg go
          case rel => exact ⟨i + 1, (max g mk), G9, G10, (leftMk nd g mk X1), (leftMk nd g mk X2), (max g mk), _, _, rfl, by go_num, by omega, by omega, (show HW _ _ _ _ _ _ _ _ _ _ _ _ _ _ from HS11.out.more (by omega)), (show JI _ _ _ _ _ _ from ⟨by have := HJ.out.lo; omega, fun h => by omega, fun _ => ⟨HPR.out, rfl⟩⟩)⟩
          case measure => omega
    · have bt : ¬ (i : Int) < (xs.length : Int) := by omega
      go_wp2_with fail
      go_ret
      exact ⟨rfl, HS.out.bl⟩

end Go.Proofs.YtpcbhcdpegbfjaaGreat
