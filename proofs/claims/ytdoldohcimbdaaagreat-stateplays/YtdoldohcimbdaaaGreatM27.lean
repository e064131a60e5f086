/-
  Texts in build order: SNew.
-/
import Derived.Test.YtdoldohcimbdaaaGreatM26
import Derived.Carry
/-
  New, Load.
-/
namespace Go.Proofs.YtdoldohcimbdaaaGreat
open Go.RowKit

theorem Row.seg {α : Type} {t sz : Nat} {cs : α → List Value} {base : Nat} {w : World} {v : Value} {xs : List α} (h : Row t sz cs base w v xs) (hcs : ∀ x, (cs x).length = sz) (hl : xs.length ≤ 140737488355328) : LSeg sz cs w.heap.size w v xs := by
  rcases h with ⟨rfl, rfl⟩ | ⟨g, off, cap, cur, rfl, h2, h3, h4, h5, h6, h7⟩
  · exact LSeg.nil' _ _ _ _
  · refine ⟨_, cap, rfl, hl, .inr ⟨g, off, rfl, h3.lt, fun i x hi j u hu => ?_⟩⟩
    rw [h3.cellAt, Nat.add_assoc]
    exact h7 _ u (flat_get hcs xs i j x u hi hu)
/-- A state that is made: an empty map of panes at m, one of sessions at o. -/
theorem fresh_state {w : World} {s m o : Nat} {kd size slide ag : Int} (hb : BoxT 76 w s #[.int .i64 kd, .int .i64 size, .int .i64 slide, .int .i64 ag, .map (some m), .map (some o)]) (hm : MapAt Tryz.prog 89 w m []) (ho : MapAt Tryz.prog 2 w o []) (hmo : m ≠ o) : StAt w s m o kd size slide ag (fun i => i = o) [] [] := by
  have hso : ¬ s = o := fun e => by
    obtain ⟨es, ck, h1⟩ := ho.isMap
    unfold BoxT at hb
    rw [e, h1] at hb
    cases hb
  exact ⟨hb, hm, ⟨ho, fun r hr => (by cases hr), fun r hr => (by cases hr), .nil, rfl, fun i hi => hi ▸ ho.lt⟩, fun x hx => (by cases hx), hso, hmo, ⟨fun _ => rfl, fun _ x hx => (by cases hx), fun r hr => (by cases hr), fun r hr => (by cases hr)⟩⟩
theorem made_at (P : Program) (K : TypeId) (w : World) {n : Nat} (hn : n = w.heap.size) : MapAt P K (w.alloc (.map #[] 0)) n [] := by subst hn; exact MapAt.made P K w
theorem MapAt.alloc {P : Program} {K : TypeId} {w : World} {b : Nat} {M : List (Value × Value)} (h : MapAt P K w b M) (o : Obj) : MapAt P K (w.alloc o) b M := h.back (Below.heap_alloc w o b h.lt)
set_option maxHeartbeats 8000000 in
set_option maxRecDepth 100000 in
theorem New_any (w : World) (kd size slide ag : Int) : Calls Tryz.prog 6 #[.agg #[.int .i64 kd, .int .i64 size, .int .i64 slide], .int .i64 ag] w fun e w' => ∃ s fp, e = .returned (.pointer (some ⟨s, 0, none⟩)) ∧ SA w' s kd size slide ag fp [] ∧ (∀ i, fp i → w.heap.size ≤ i) ∧ Below w.heap.size w w' := by
  have hmm := @run_makeMap Tryz.prog
  go_enter Tryz.func6, Tryz.ntmps6
  go_wp2_with fail
  go_ret
  refine ⟨w.heap.size + 1 + 1 + 1, FP (w.heap.size + 1 + 1 + 1) (w.heap.size + 1) (fun i => i = w.heap.size + 1 + 1), rfl, ⟨w.heap.size + 1, w.heap.size + 1 + 1, _, _, fresh_state (BoxT.new_at (t := 76) (by simp)) (((made_at _ _ _ (by simp)).alloc _).alloc _) ((made_at _ _ _ (by simp)).alloc _) (by omega), fun _ => Iff.rfl⟩, fun i hi => ?_, ?_⟩
  · rcases hi with e | e | e <;> omega
  · exact ((((Below.refl _ _).alloc (Nat.le_refl _) _).alloc (by simp) _).alloc (by simp; omega) _).alloc (by simp; omega) _
/-- What Load has under way. -/
structure LdI (w wr : World) (s m o : Nat) (kd size slide ag : Int) (fp : Nat → Prop) (fq' : Nat → Prop) (M' : List Pn) (R' : List SRow) (u : Value) (L : List Pn) : Prop where
  st : StAt wr s m o kd size slide ag fq' M' R'
  ft : FT fp (FP s m fq') w wr
  row : LSeg 4 Pn.cs wr.heap.size wr u L
  n2 : ∀ g, u.ownBlock = some g → ¬ FP s m fq' g
theorem LSeg.off {w w' : World} {u : Value} {L : List Pn} (h : LSeg 4 Pn.cs w.heap.size w u L) (hb : ∀ g, u.ownBlock = some g → w'.heap[g]? = w.heap[g]?) (hs : w.heap.size ≤ w'.heap.size) : LSeg 4 Pn.cs w'.heap.size w' u L := by
  obtain ⟨ao, cap, rfl, hl, hc⟩ := h
  refine ⟨ao, cap, rfl, hl, ?_⟩
  rcases hc with hc | ⟨b, off, rfl, hbl, hc⟩
  · exact .inl hc
  · refine .inr ⟨b, off, rfl, by omega, fun i x hx j v hv => ?_⟩
    have h1 := hc i x hx j v hv
    rw [World.cell?] at h1 ⊢
    rw [hb b rfl]; exact h1
theorem LdI.step {w wr w' W : World} {s m o : Nat} {kd size slide ag : Int} {fp fq' fq'' : Nat → Prop} {M' M'' : List Pn} {R' R'' : List SRow} {u : Value} {L : List Pn} (h : LdI w wr s m o kd size slide ag fp fq' M' R' u L) (hb : Below wr.heap.size wr W) (hst : StAt w' s m o kd size slide ag fq'' M'' R'') (hft : FT (FP s m fq') (FP s m fq'') W w') (hlt : ∀ g, u.ownBlock = some g → g < wr.heap.size) : LdI w w' s m o kd size slide ag fp fq'' M'' R'' u L := by
  have sz := hb.size
  have s2 := hft.size
  refine ⟨hst, (h.ft.trans (FT.of_below hb)).trans hft, h.row.off (fun g e => (hft.block g (by have := hlt g e; omega) (h.n2 g e)).trans (hb.block g (hlt g e))) (by omega), fun g e e2 => ?_⟩
  rcases hft.sub g e2 with e3 | e3
  · exact h.n2 g e e3
  · have := hlt g e; omega
theorem run_makeMapN (n : Nat) (w : World) : (Instr.makeMap 72 (some (.int .i64 (n : Int)))).run Tryz.prog w = .ok (.map (some w.heap.size)) (w.alloc (.map #[] 0)) := by
  simp [Instr.makeMap, asInt, asIntOf]
def LdPost (w : World) (s : Nat) (kd size slide ag : Int) (fp : Nat → Prop) (l : List Pn) (e : Ending) (w' : World) : Prop := e = .returned (.tuple #[]) ∧ APost w s kd size slide ag fp l w'
set_option maxHeartbeats 8000000 in
set_option maxRecDepth 100000 in
theorem Load_any {w : World} {s : Nat} {kd size slide ag : Int} {fp : Nat → Prop} {M : List Pn} (h : SA w s kd size slide ag fp M) {v : Value} {l : List Pn} (hl : LSeg 4 Pn.cs w.heap.size w v l) (hv : ∀ g, v.ownBlock = some g → ¬ fp g) (hok : ∀ x ∈ l, PnOk x ∧ (kd = 3 → x.f < x.t)) (hn : l.length ≤ 90000) :
    Calls Tryz.prog 15 #[.pointer (some ⟨s, 0, none⟩), v] w (LdPost w s kd size slide ag fp l) := by
  obtain ⟨m, o, fq, R, h, hf⟩ := h
  obtain ⟨ao, cap, rfl⟩ := hl.shapeOf
  have hmm := @run_makeMap Tryz.prog
  have hmn := run_makeMapN l.length
  obtain ⟨c0, c1, c2, c3, c4, c5⟩ := h.cells
  have cf := fun j => h.box.free j
  have hslt := h.box.lt
  have hne1 : ¬ s = w.heap.size := by omega
  have hne2 : ¬ s = w.heap.size + 1 := by omega
  have HH := hide h
  have HLS := hide hl
  have HV := hide hv
  have HF := hide hf
  have HOK := hide hok
  clear h hl hv hf hok
  go_enter Tryz.func15, Tryz.ntmps15
  go_upto_region 1 with fail
  obtain ⟨W2, hW2⟩ : ∃ W2, W2 = (((w.setCell ⟨s, 4, none⟩ (.map (some w.heap.size))).setCell ⟨s, 5, none⟩ (.map (some (w.heap.size + 1)))).alloc (.map #[] 0)).alloc (.map #[] 0) := ⟨_, rfl⟩
  rw [← hW2]
  have hs0 : ((w.setCell ⟨s, 4, none⟩ (.map (some w.heap.size))).setCell ⟨s, 5, none⟩ (.map (some (w.heap.size + 1)))).heap.size = w.heap.size := by simp
  have hg0 : w.grownBy ((w.setCell ⟨s, 4, none⟩ (.map (some w.heap.size))).setCell ⟨s, 5, none⟩ (.map (some (w.heap.size + 1)))) (some s) := grownBy_trans (grownBy_set _ _ _ _) (grownBy_set _ _ _ _)
  have hst : StAt W2 s w.heap.size (w.heap.size + 1) kd size slide ag (fun i => i = w.heap.size + 1) [] [] := by
    rw [hW2]
    refine fresh_state (BoxT.alloc (t := 76) (BoxT.alloc (t := 76) ?_ _) _) ((made_at _ _ _ hs0.symm).alloc _) (made_at _ _ _ (by simp)) (by omega)
    have := (HH.out.box.set 4 (.map (some w.heap.size))).set 5 (.map (some (w.heap.size + 1)))
    simpa using this
  have hfps : fp s := (HF.out s).2 (.inl rfl)
  have hsz2 : W2.heap.size = w.heap.size + 2 := by rw [hW2]; simp
  have hblk : ∀ i, i < w.heap.size → i ≠ s → W2.heap[i]? = w.heap[i]? := fun i hi hne => by
    rw [hW2, Below.heap_alloc _ _ i (by simp; omega), Below.heap_alloc _ _ i (by rw [hs0]; exact hi)]
    exact hg0.block i hi (fun e => hne (by cases e; rfl))
  have hft : FT fp (FP s w.heap.size (fun i => i = w.heap.size + 1)) w W2 := by
    refine ⟨by rw [hW2]; exact hg0.os, by rw [hW2]; exact hg0.tape, by rw [hW2]; exact hg0.output, by omega, fun i hi hn => hblk i hi (fun e => hn (e ▸ hfps)), fun i hi => ?_⟩
    rcases hi with e | e | e
    · exact .inl (e ▸ hfps)
    · exact .inr (by omega)
    · exact .inr (by omega)
  have hlen : ∀ g, (Value.slice ao l.length cap).ownBlock = some g → l ≠ [] → g < w.heap.size := fun g e hne => by
    obtain ⟨ao', cap', e', _, hc⟩ := HLS.out
    cases e'
    rcases hc with hc | ⟨b, off, rfl, hbl, _⟩
    · exact absurd hc hne
    · cases e; exact hbl
  have hl2 : LSeg 4 Pn.cs W2.heap.size W2 (.slice ao l.length cap) l := by
    by_cases hne : l = []
    · subst hne; exact ⟨ao, cap, rfl, by simp, .inl rfl⟩
    · exact HLS.out.off (fun g e => hblk g (hlen g e hne) (fun e2 => HV.out g e (e2 ▸ hfps))) (by omega)
  have HSO := hide (Sort_any hl2 (by omega))
  have HST := hide hst
  have HFT := hide hft
  have HSZ := hide hsz2
  have hsl : (srt l).length = l.length := srt_len l
  have HPS := hide (srt_perm l)
  have HSO2 : Hid (∀ x ∈ srt l, PnOk x ∧ (kd = 3 → x.f < x.t)) := fun x hx => HOK.out x ((srt_perm l).mem_iff.1 hx)
  clear hst hft hsz2 hblk hlen hl2 hg0 hs0 hW2 hfps c0 c1 c2 c3 c4 c5 cf
  generalize srt l = L at *
  go_wp2_with (first | (go_at_call 41; refine HSO.out.mono ?_; rintro e w3 ⟨u, rfl, o3, b3⟩; have HR3 := hide o3; have B3 := hide b3; obtain ⟨ua, uc, rfl⟩ := o3.shape; clear o3 b3) | fail)
  have HI : Hid (LdI w w3 s w.heap.size (w.heap.size + 1) kd size slide ag fp (fun i => i = w.heap.size + 1) [] [] (.slice ua L.length uc) L) := by
    refine ⟨HST.out.below (fun i hi => B3.out.block i (HST.out.flt i hi)) B3.out.size, HFT.out.trans (FT.of_below B3.out), HR3.out.seg Pn.cs_len (by omega), fun g e e2 => ?_⟩
    have h1 := HR3.out.at g e
    have h2 := HST.out.flt g e2
    omega
  have HLT : Hid (∀ g, (Value.slice ua L.length uc).ownBlock = some g → g < w3.heap.size) := fun g e => by
    obtain ⟨cu, hcu⟩ := HR3.out.has g e
    exact hcu.lt
  clear HST HSO
  go_loopg [19] (L.length + 1) (fun gh iv wr => ∃ (i : Nat) (fq' : Nat → Prop) (M' : List Pn) (R' : List SRow), iv = .int .i64 (i : Int) ∧ i ≤ L.length ∧ L.length + 1 ≤ gh + i ∧ w3.heap.size ≤ wr.heap.size ∧ Hid (LdI w wr s w.heap.size (w.heap.size + 1) kd size slide ag fp fq' M' R' (.slice ua L.length uc) L) ∧ Hid (Comes (sess kd) (jn ag) (L.take i) M'))
  case atStart => exact ⟨0, _, [], [], rfl, by omega, by omega, Nat.le_refl _, HI, (show Comes _ _ _ _ from Comes.refl .nil)⟩
  case round =>
    clear HI
    obtain ⟨i, fq', M', R', rfl, hi, hg, hws, HP, HC⟩ := hrel
    obtain ⟨go, rfl⟩ : ∃ go, gk = go + 1 := ⟨gk - 1, by omega⟩
    by_cases hlt : i < L.length
    · obtain ⟨x, hx⟩ := get_of_lt hlt
      have bt : (i : Int) < (L.length : Int) := by omega
      obtain ⟨nb, no, rfl, nlt, e0, e1, e2, e3⟩ := HP.out.row.pane hx
      have hin := HSO2.out x (List.mem_of_getElem? hx)
      have HTS : Hid (L.take (i + 1) = L.take i ++ [x]) := (show _ = _ by
        have e : L[i] = x := by rw [List.getElem?_eq_getElem hlt] at hx; exact Option.some.inj hx
        rw [List.take_succ_eq_append_getElem hlt, e])
      have hbx := below_box wr (.cells #[.int .i64 x.k, .int .i64 x.f, .int .i64 x.t, .int .i64 x.a] 70)
      have hstt := HP.out.st.below (fun i hi => hbx.block i (HP.out.st.flt i hi)) hbx.size
      have hml : M'.length ≤ 100000 := by
        have h1 := HC.out.1.len
        rw [List.length_take] at h1
        omega
      have HLA := hide (lay_any hstt (k := x.k) (f := x.f) (t := x.t) (c := x.a) hin.1 hin.2 hml)
      have HBX := hide hbx
      obtain ⟨xk, xf, xt, xa⟩ := x
      simp only at e0 e1 e2 e3 HLA HBX
      clear hbx hstt hml hx hin
      go_wp2_with (first | (go_at_call 28; refine HLA.out.mono ?_; rintro e w5 ⟨rfl, fq'', M'', R'', st5, ft5, c5⟩; have HZ5 := hide (Nat.le_trans HBX.out.size ft5.size); have H5 := hide (HP.out.step HBX.out st5 ft5 (fun g e => Nat.lt_of_lt_of_le (HLT.out g e) hws)); have C5 := hide c5; clear st5 ft5 c5) | fail)
      go_roundg go
      case rel =>
        refine ⟨i + 1, fq'', M'', R'', by go_num, by omega, by omega, Nat.le_trans hws HZ5.out, H5, (show Comes _ _ _ _ from ?_)⟩
        rw [HTS.out]
        have h6 := Comes.step (q := [⟨xk, xf, xt, xa⟩]) HC.out C5.out
        exact h6.perm List.perm_append_comm (.refl _)
      case measure => omega
    · obtain rfl : i = L.length := by omega
      have bt : ¬ ((L.length : Nat) : Int) < (L.length : Int) := by omega
      go_wp2_with fail
      go_end0
      refine ⟨rfl, FP s w.heap.size fq', M', ⟨_, _, fq', R', HP.out.st, fun _ => Iff.rfl⟩, HP.out.ft, ?_⟩
      have h6 := HC.out
      rw [List.take_of_length_le (Nat.le_refl _)] at h6
      exact h6.perm HPS.out (.refl _)
end Go.Proofs.YtdoldohcimbdaaaGreat
