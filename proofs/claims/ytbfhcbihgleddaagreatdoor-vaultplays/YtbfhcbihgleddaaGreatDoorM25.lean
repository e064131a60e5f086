/-
  Texts of the vault, in build order: VUnpack, VFind.
-/
import Derived.Test.YtbfhcbihgleddaaGreatDoorM24
/-
  The vault's unpack: the parts that a chunk has.
-/
namespace Go.Proofs.YtbfhcbihgleddaaGreatDoor
open Go.RowKit

section
variable {α β : Type} {t sz t2 sz2 : Nat} {cs : α → List Value} {cs2 : β → List Value} {base : Nat} {w w' : World} {v v2 : Value} {xs : List α} {ys : List β}
theorem OwnL.drew (h : OwnL t sz cs base w v xs) : OwnL t sz cs base w.drew v xs := h
theorem OwnL.back (h : OwnL t sz cs base w v xs) (hb : ∀ g, v.ownBlock = some g → w'.heap[g]? = w.heap[g]?) : OwnL t sz cs base w' v xs := by
  refine ⟨h.1, ?_⟩
  rcases h.2 with h | ⟨g, cap, cur, rfl, h2, h3, h4⟩
  · exact .inl h
  · exact .inr ⟨g, cap, cur, rfl, h2, by rw [hb g rfl]; exact h3, h4⟩
theorem OwnL.has (h : OwnL t sz cs base w v xs) (g : Nat) (hg : v.ownBlock = some g) : ∃ cur, w.heap[g]? = some (.cells cur t (0, 0)) := by
  rcases h.2 with ⟨rfl, _⟩ | ⟨g', cap, cur, rfl, h2, h3, _⟩
  · cases hg
  · obtain rfl : g' = g := Option.some.inj hg
    exact ⟨cur, h3⟩
theorem OwnL.at (h : OwnL t sz cs base w v xs) : ∀ g, v.ownBlock = some g → base ≤ g := fun g e => (World.ownsRow.lt h g e).1
theorem OwnL.lt (h : OwnL t sz cs base w v xs) (g : Nat) (hg : v.ownBlock = some g) : g < w.heap.size := by
  obtain ⟨cur, hc⟩ := h.has g hg
  exact (Array.getElem?_eq_some_iff.1 hc).1
theorem OwnL.other (h : OwnL t sz cs base w v xs) {base2 : Nat} (h2 : OwnL t2 sz2 cs2 base2 w v2 ys) (ht : t ≠ t2) (hg : w.grownBy w' v2.ownBlock) : OwnL t sz cs base w' v xs :=
  h.back fun g e => by
    obtain ⟨cur, hc⟩ := h.has g e
    refine hg.block g (Array.getElem?_eq_some_iff.1 hc).1 fun e2 => ?_
    obtain ⟨cur2, hc2⟩ := h2.has g e2.symm
    rw [hc] at hc2
    simp at hc2
    exact ht hc2.2
theorem OwnL.bel {w0 : World} (h : Below base w0 w) (ho : OwnL t sz cs base w v xs) (hg : w.grownBy w' v.ownBlock) (hb : base ≤ w.heap.size) : Below base w0 w' :=
  ⟨hg.os.trans h.os, hg.tape.trans h.tape, hg.output.trans h.output, Nat.le_trans h.size hg.size, fun i hi => (hg.block i (by omega) (fun e => by have := ho.at i e.symm; omega)).trans (h.block i hi)⟩
end
theorem SegB.rowed {α : Type} {t sz base : Nat} {cs : α → List Value} {w w' : World} {v u : Value} {xs : List α} {l : List Nat} (h : SegB base w v l) (ho : OwnL t sz cs base w u xs) (hg : w.grownBy w' u.ownBlock) (hb : base ≤ w.heap.size) : SegB base w' v l := by
  obtain ⟨ao, cap, h1, h2, h3, h3', h4⟩ := h
  refine ⟨ao, cap, h1, h2, h3, h3', ?_⟩
  rcases h4 with h4 | ⟨b, off, h5, h6, h7⟩
  · exact .inl h4
  · exact .inr ⟨b, off, h5, h6, fun i x hi => (World.cell?_of_block (hg.block b (by omega) (fun e => by have := ho.at b e.symm; omega))).trans (h7 i x hi)⟩
theorem SegB.down {B : Nat} {w w' : World} {v : Value} {l : List Nat} (h : SegB B w v l) (hb : Below B w w') : SegB B w' v l := by
  obtain ⟨ao, cap, h1, h2, h3, h3', h4⟩ := h
  refine ⟨ao, cap, h1, h2, h3, h3', ?_⟩
  rcases h4 with h4 | ⟨b, off, h5, h6, h7⟩
  · exact .inl h4
  · exact .inr ⟨b, off, h5, h6, fun i x hi => (hb.cell (p := ⟨b, off + i, none⟩) h6).trans (h7 i x hi)⟩
/-- A slice from a place on. -/
theorem SegB.from {ao : Option Addr} {cap B : Nat} {l : List Nat} {w : World} (h : SegB B w (.slice ao l.length cap) l) (k : Nat) (hk : k ≤ l.length) :
    SegB B w (.slice (if cap = k then ao else ao.map (fun x => x.add k)) (l.length - k) (cap - k)) (l.drop k) := by
  obtain ⟨ao', cap', e, g1, g2, g3, g4⟩ := h
  cases e
  refine ⟨if cap = k then ao else ao.map (·.add k), cap - k, by simp, by simp; omega, by omega, by simp; omega, ?_⟩
  by_cases hc : cap = k
  · exact .inl (List.drop_eq_nil_of_le (by omega))
  · rcases g4 with g4 | ⟨b, off, g5, g6, g7⟩
    · exact .inl (by simp [g4])
    · refine .inr ⟨b, off + k, by rw [if_neg hc, g5]; simp [Addr.add], g6, fun i x hi => ?_⟩
      rw [List.getElem?_drop] at hi
      rw [Nat.add_assoc]; exact g7 _ x hi
/-- A part as it lies in a row. -/
structure SnV where
  s : Sn
  am : Option Addr
  cm : Nat
  ap : Option Addr
  cp : Nat
  ac : Option Addr
  cc : Nat
def SnV.cs (x : SnV) : List Value := [.int .i64 x.s.task, .int .i64 x.s.off, .int .i64 x.s.mark, .slice x.am x.s.marks.length x.cm, .slice x.ap x.s.panes.length x.cp, .slice x.ac x.s.outs.length x.cc]
def SnV.ok (base : Nat) (w : World) (x : SnV) : Prop := OwnSn base w (.slice x.am x.s.marks.length x.cm) (.slice x.ap x.s.panes.length x.cp) (.slice x.ac x.s.outs.length x.cc) x.s
theorem SnV.ok.below {base : Nat} {w w' : World} {x : SnV} (h : x.ok base w) (hb : Below w.heap.size w w') : x.ok base w' := OwnSn.below h hb
theorem SnV.ok.rowed {base base2 : Nat} {w w' : World} {x : SnV} {u : Value} {xs : List SnV} (h : x.ok base w) (ho : OwnL 27 6 SnV.cs base2 w u xs) (hg : w.grownBy w' u.ownBlock) : x.ok base w' :=
  ⟨h.m.other ho (by decide) hg, h.p.other ho (by decide) hg, h.c.other ho (by decide) hg⟩
theorem Tryz.info27 : (Tryz.prog.info? 27).map (fun i => (i.zero, i.size, i.bytes)) = some (some (.agg #[.int .i64 0, .int .i64 0, .int .i64 0, .slice none 0 0, .slice none 0 0, .slice none 0 0]), 6, 96) := by kernel_rfl
theorem num_left (k : Nat) (s : List Nat × Bool) : (num k s).2.1.length + k = s.1.length ∨ ((num k s).2.2 = true ∧ (num k s).2.1 = s.1) := by
  by_cases hk : k ≤ s.1.length
  · rw [num_yes hk]; exact .inl (by simp; omega)
  · rw [num_no hk]; exact .inr ⟨rfl, rfl⟩
theorem num_bad' (k : Nat) (s : List Nat × Bool) (h : s.2 = true) : (num k s).2.2 = true := by
  by_cases hk : k ≤ s.1.length
  · rw [num_yes hk]; exact h
  · rw [num_no hk]
theorem rOpen_len {l x : List Nat} (h : rOpen l = some x) : 8 + x.length ≤ l.length := by
  unfold rOpen at h
  split at h
  case isTrue hh =>
    cases h
    obtain ⟨h1, h2, h3, _⟩ := hh
    rw [List.length_take, Nat.min_eq_left h3]
    rcases num_left 4 (l, false) with h4 | ⟨h4, _⟩
    · rcases num_left 4 (num 4 (l, false)).2 with h5 | ⟨h5, _⟩
      · simp only at h4; omega
      · rw [h2] at h5; cases h5
    · have := num_bad' 4 _ h4
      rw [h2] at this; cases this
  case isFalse => cases h
/-- The parts that lie in bytes, one seal behind the other. -/
def unpkf : Nat → List Nat → Option (List Sn)
  | 0, _ => some []
  | f + 1, l => if l = [] then some [] else
    match rOpen l with
    | none => none
    | some x => if done (rSnap (x, false)).2 then (unpkf f (l.drop (8 + x.length))).map ((rSnap (x, false)).1 :: ·) else none
theorem unpkf_more (f : Nat) : ∀ g l, l.length ≤ f → l.length ≤ g → unpkf f l = unpkf g l := by
  induction f with
  | zero =>
    intro g l h _
    obtain rfl : l = [] := List.length_eq_zero_iff.1 (by omega)
    cases g <;> rfl
  | succ f ih =>
    intro g l h1 h2
    cases g with
    | zero =>
      obtain rfl : l = [] := List.length_eq_zero_iff.1 (by omega)
      rfl
    | succ g =>
      unfold unpkf
      split
      · rfl
      · rename_i hl
        have h0 : l.length ≠ 0 := fun e => hl (List.length_eq_zero_iff.1 e)
        cases hr : rOpen l with
        | none => rfl
        | some x =>
          simp only []
          rw [ih g (l.drop (8 + x.length)) (by rw [List.length_drop]; omega) (by rw [List.length_drop]; omega)]
def unpk (l : List Nat) : Option (List Sn) := unpkf l.length l
theorem unpk_nil : unpk [] = some [] := rfl
theorem unpk_eq {l : List Nat} (hl : l ≠ []) : unpk l = match rOpen l with
    | none => none
    | some x => if done (rSnap (x, false)).2 then (unpk (l.drop (8 + x.length))).map ((rSnap (x, false)).1 :: ·) else none := by
  have h0 : l.length ≠ 0 := fun e => hl (List.length_eq_zero_iff.1 e)
  obtain ⟨n, hn⟩ : ∃ n, l.length = n + 1 := ⟨l.length - 1, by omega⟩
  unfold unpk
  rw [hn]
  conv => lhs; unfold unpkf
  rw [if_neg hl]
  cases hr : rOpen l with
  | none => rfl
  | some x =>
    simp only []
    rw [unpkf_more n (l.drop (8 + x.length)).length (l.drop (8 + x.length)) (by rw [List.length_drop]; omega) (Nat.le_refl _)]
theorem unpk_no {l : List Nat} (hl : l ≠ []) (h : rOpen l = none) : unpk l = none := by rw [unpk_eq hl, h]
theorem unpk_yes {l x : List Nat} (hl : l ≠ []) (h : rOpen l = some x) : unpk l = if done (rSnap (x, false)).2 then (unpk (l.drop (8 + x.length))).map ((rSnap (x, false)).1 :: ·) else none := by
  rw [unpk_eq hl, h]
/-- What unpack leaves. -/
def UPost (w : World) (r : Option (List Sn)) (e : Ending) (w' : World) : Prop :=
  (∃ xs v', r = some (xs.map SnV.s) ∧ xs ≠ [] ∧ e = .returned (.tuple #[v', .bool true]) ∧ OwnL 27 6 SnV.cs w.heap.size w' v' xs ∧ (∀ x ∈ xs, x.ok w.heap.size w') ∧ Below w.heap.size w w') ∨ ((r = none ∨ r = some []) ∧ e = .returned (.tuple #[.slice none 0 0, .bool false]) ∧ Below w.heap.size w w')
structure UpI (w wr : World) (l l' : List Nat) (v0 v4 : Value) (acc : List SnV) : Prop where
  seg : SegB w.heap.size wr v0 l'
  byts : Byts l'
  own : OwnL 27 6 SnV.cs w.heap.size wr v4 acc
  oks : ∀ x ∈ acc, x.ok w.heap.size wr
  eq : unpk l = (unpk l').map (acc.map SnV.s ++ ·)
  len : 8 * acc.length + l'.length ≤ l.length
  bel : Below w.heap.size w wr
  nil : acc = [] → v4 = .slice none 0 0
theorem SegB.at {B : Nat} {w : World} {v : Value} {l : List Nat} (h : SegB B w v l) (hB : B ≤ w.heap.size) : Seg w v l := by
  obtain ⟨ao, cap, h1, h2, h3, h3', h4⟩ := h
  exact ⟨ao, cap, h1, h2, h3, h3', h4.imp id fun ⟨b, off, h5, h6, h7⟩ => ⟨b, off, h5, by omega, h7⟩⟩

set_option maxHeartbeats 2000000 in
set_option maxRecDepth 100000 in
theorem unpack_any (v : Value) (l : List Nat) (w : World) (h : Seg w v l) (hb : Byts l) (hg : Glob w) (hl : l.length ≤ 2000000) : Calls Tryz.prog 48 #[v] w (UPost w (unpk l)) := by
  have H0 : Hid (UpI w w l l v (.slice none 0 0) []) := ⟨h.segB, hb, OwnL.nil _ _ _ _ _, (fun x hx => by cases hx), (by cases unpk l <;> simp), by simp, Below.refl _ _, fun _ => rfl⟩
  have HG := hide hg
  clear h hb hg
  generalize hu : unpk l = r at *
  have HU := hide hu
  clear hu
  go_enter Tryz.func48, Tryz.ntmps48
  go_wp2
  go_loopw [0, 4] (fun v0 v4 wr => ∃ l' acc, Hid (UpI w wr l l' v0 v4 acc)) (fun v0 _ _ => match v0 with | .slice _ n _ => n | _ => 0)
  case atStart => exact ⟨l, [], H0⟩
  case round =>
    obtain ⟨l', acc, HI⟩ := hrel
    have hlen := HI.out.len
    have hgr : Glob wr := HG.out.below HI.out.bel HG.out.1
    obtain ⟨ao, cap, hv0, q1, q2, q3, q4⟩ := HI.out.seg
    clear q4
    subst hv0
    obtain ⟨a4, c4, hv4⟩ := HI.out.own.shape
    subst hv4
    by_cases hl' : l' = []
    · subst hl'
      clear H0
      have hbe := hide HI.out.bel
      have HR : Hid (r = some (acc.map SnV.s)) := by
        show _ = _
        rw [← HU.out, HI.out.eq, unpk_nil]; simp
      by_cases ha : acc = []
      · subst ha
        have hv4 := HI.out.nil rfl
        cases hv4
        go_wp2
        go_ret2
        exact .inr ⟨.inr HR.out, rfl, hbe.out⟩
      · have hal : 0 < acc.length := List.length_pos_iff.2 ha
        go_wp2
        go_ret2
        exact .inl ⟨acc, _, HR.out, ha, rfl, HI.out.own, HI.out.oks, hbe.out⟩
    · have hpos : 0 < l'.length := List.length_pos_iff.2 hl'
      have ho := Open_any _ l' wr (HI.out.seg.at HI.out.bel.size) HI.out.byts hgr
      generalize hro : rOpen l' = ro at *
      have HRO := hide hro
      clear hro H0
      go_wp2_with fail
      refine ho.mono ?_
      intro e w1 hq
      rcases hq with ⟨x, v5, rfl, rfl, ow, b1⟩ | ⟨rfl, rfl, b1⟩
      · have hxl := rOpen_len HRO.out
        have hx1 : x.length ≤ 140737488355328 := by omega
        have hxb := rOpen_byts HI.out.byts HRO.out
        have hsn := OpenSnap_any v5 x w1 (ow.seg hx1) hxb
        obtain ⟨a5, c5, hv5, _⟩ := ow.seg hx1
        subst hv5
        have hb1 := hide (HI.out.bel.trans (b1.mono HI.out.bel.size))
        have HS1 := hide (HI.out.seg.down (b1.mono HI.out.bel.size))
        have HO1 := hide (HI.out.own.below b1)
        have HX1 : Hid (∀ y ∈ acc, y.ok w.heap.size w1) := fun y hy => (HI.out.oks y hy).below b1
        have HUY := hide (unpk_yes hl' HRO.out)
        have HRX := hide (rfl : rSnap (x, false) = rSnap (x, false))
        generalize rSnap (x, false) = rs at hsn HUY
        clear ho b1 ow
        go_wp2_with fail
        refine hsn.mono ?_
        rintro e w2 ⟨vm, vp, vc, rfl, os, b2⟩
        obtain ⟨am, cm, rfl⟩ := os.m.shape
        obtain ⟨ap, cp, rfl⟩ := os.p.shape
        obtain ⟨ac, cc, rfl⟩ := os.c.shape
        have hb2 := hide (hb1.out.trans (b2.mono hb1.out.size))
        cases hdn : done rs.2
        · have hoe : oEr rs = 10 := by unfold oEr; rw [hdn]; rfl
          rw [hoe]
          have HR : Hid (r = none) := by
            show _ = _
            rw [← HU.out, HI.out.eq, HUY.out, hdn]; rfl
          clear hsn os b2 hb1 hdn
          go_wp2
          go_ret2
          exact .inr ⟨.inl HR.out, rfl, hb2.out.alloc hb2.out.size _⟩
        · have hoe : oEr rs = 0 := by unfold oEr; rw [hdn]; rfl
          have hos : oSn rs = rs.1 := by unfold oSn; rw [hdn]; rfl
          rw [hos] at os
          rw [hoe, hos]
          obtain ⟨y, sy⟩ := rs
          simp only at os ⊢
          have HE : Hid (r = (unpk (l'.drop (8 + x.length))).map ((acc.map SnV.s ++ [y]) ++ ·)) := by
            show _ = _
            rw [← HU.out, HI.out.eq, HUY.out, hdn]
            cases unpk (l'.drop (8 + x.length)) <;> simp
          have HSN : Hid (SnV.ok w.heap.size w2 ⟨y, am, cm, ap, cp, ac, cc⟩) := OwnSn.mono os hb1.out.size
          have HS2 := hide (HS1.out.down (b2.mono hb1.out.size))
          have HO2 := hide (HO1.out.below b2)
          have HX2 : Hid (∀ y ∈ acc, y.ok w.heap.size w2) := fun z hz => (HX1.out z hz).below b2
          have hla : acc.length ≤ 1000000 := by omega
          have hsz2 := hb2.out.size
          clear hsn os b2 hb1 hdn HS1 HO1 HX1 hoe hos HUY
          have ba : Below w2.heap.size w2 ((w2.alloc (.cells #[.int .i64 y.task, .int .i64 y.off, .int .i64 y.mark, .slice am y.marks.length cm, .slice ap y.panes.length cp, .slice ac y.outs.length cc] 27)).alloc (.cells #[.int .i64 y.task, .int .i64 y.off, .int .i64 y.mark, .slice am y.marks.length cm, .slice ap y.panes.length cp, .slice ac y.outs.length cc] 27)) := ((Below.refl _ _).alloc (Nat.le_refl _) _).alloc (by simp) _
          have BA := hide ba
          clear ba
          go_wp2_with (first | (at_builtin; refine app_ownL Tryz.info27 Tryz.underlying30 rfl (by decide) (by decide) (fun _ => rfl) (fun z u hu => by simp [SnV.cs] at hu; rcases hu with rfl | rfl | rfl | rfl | rfl | rfl <;> rfl) rfl _ _ rfl w.heap.size _ acc rfl (HO2.out.below BA.out) ⟨w2.heap.size + 1, 0, none⟩ 1 ⟨y, am, cm, ap, cp, ac, cc⟩ rfl (fun j u hu => by match j, hu with | 0, hu | 1, hu | 2, hu | 3, hu | 4, hu | 5, hu => simp [SnV.cs] at hu; subst hu; simp [Addr.add]) hla (by simp; omega) ?_) | fail)
          intro v3 w3 ho3 hg3
          have HN : Hid (UpI w w3 l (l'.drop (8 + x.length)) (.slice (if cap = 8 + x.length then ao else ao.map (fun z => z.add (8 + x.length))) (l'.length - (8 + x.length)) (cap - (8 + x.length))) v3 (acc ++ [⟨y, am, cm, ap, cp, ac, cc⟩])) := by
            have ho := HO2.out.below BA.out
            have hbb : w.heap.size ≤ ((w2.alloc (.cells #[.int .i64 y.task, .int .i64 y.off, .int .i64 y.mark, .slice am y.marks.length cm, .slice ap y.panes.length cp, .slice ac y.outs.length cc] 27)).alloc (.cells #[.int .i64 y.task, .int .i64 y.off, .int .i64 y.mark, .slice am y.marks.length cm, .slice ap y.panes.length cp, .slice ac y.outs.length cc] 27)).heap.size := Nat.le_trans hsz2 BA.out.size
            refine ⟨((HS2.out.down (BA.out.mono hsz2)).rowed ho hg3 hbb).from _ hxl, HI.out.byts.drop _, ho3, ?_, ?_, ?_, OwnL.bel (hb2.out.trans (BA.out.mono hsz2)) ho hg3 hbb, fun e => by simp at e⟩
            · intro z hz
              rcases List.mem_append.1 hz with hz | hz
              · exact ((HX2.out z hz).below BA.out).rowed ho hg3
              · rcases List.mem_singleton.1 hz with rfl
                exact (HSN.out.below BA.out).rowed ho hg3
            · rw [HU.out, HE.out]; simp
            · simp only [List.length_append, List.length_cons, List.length_nil, List.length_drop]; omega
          clear ho3 hg3 HO2 HX2 HS2 HSN HE
          go_wp2
          go_roundw
          case rel => exact ⟨_, _, HN⟩
          case measure => show l'.length - (8 + x.length) < l'.length; omega
      · have hbe := hide (HI.out.bel.trans (b1.mono HI.out.bel.size))
        have HR : Hid (r = none) := by
          show _ = _
          rw [← HU.out, HI.out.eq, unpk_no hl' HRO.out]; rfl
        clear ho b1
        go_wp2
        go_ret2
        exact .inr ⟨.inl HR.out, rfl, hbe.out⟩
end Go.Proofs.YtbfhcbihgleddaaGreatDoor
/-
  The vault's find: a snapshot that lies whole on a disk.
-/
namespace Go.Proofs.YtbfhcbihgleddaaGreatDoor
open Go.RowKit

theorem row_has {t sz base n : Nat} {w : World} {v : Value} {xs : List Value} (h : w.ownsRow base t sz v n xs) (g : Nat) (hg : v.ownBlock = some g) : ∃ cur, w.heap[g]? = some (.cells cur t (0, 0)) := by
  rcases h.2 with ⟨rfl, _⟩ | ⟨g', cap, cur, rfl, h2, h3, _⟩
  · cases hg
  · obtain rfl : g' = g := Option.some.inj hg
    exact ⟨cur, h3⟩
theorem row_back {t sz base n : Nat} {w w' : World} {v : Value} {xs : List Value} (h : w.ownsRow base t sz v n xs) (hb : ∀ g, v.ownBlock = some g → w'.heap[g]? = w.heap[g]?) : w'.ownsRow base t sz v n xs := by
  refine ⟨h.1, ?_⟩
  rcases h.2 with h | ⟨g, cap, cur, rfl, h2, h3, h4⟩
  · exact .inl h
  · exact .inr ⟨g, cap, cur, rfl, h2, by rw [hb g rfl]; exact h3, h4⟩
theorem row_other {t sz base n t2 sz2 base2 n2 : Nat} {w w' : World} {v v2 : Value} {xs ys : List Value} (ht : t ≠ t2) (h : w.ownsRow base t sz v n xs) (h2 : w.ownsRow base2 t2 sz2 v2 n2 ys) (hg : w.grownBy w' v2.ownBlock) : w'.ownsRow base t sz v n xs :=
  row_back h fun g e => by
    obtain ⟨cur, hc⟩ := row_has h g e
    refine hg.block g (Array.getElem?_eq_some_iff.1 hc).1 fun e2 => ?_
    obtain ⟨cur2, hc2⟩ := row_has h2 g e2.symm
    rw [hc] at hc2
    simp at hc2
    exact ht hc2.2
theorem row_setBox {t sz base n b k : Nat} {w : World} {v : Value} {xs : List Value} {ca : Array Value} (h : w.ownsRow base t sz v n xs) (hb : BoxT b w k ca) (ht : b ≠ t) (j : Nat) (u : Value) : (w.setCell ⟨k, j, none⟩ u).ownsRow base t sz v n xs :=
  row_back h fun g e => by
    obtain ⟨cur, hc⟩ := row_has h g e
    refine Below.heap_setCell w ⟨k, j, none⟩ u g ?_
    show g ≠ k
    rintro rfl
    unfold BoxT at hb
    rw [hb] at hc
    simp at hc
    exact ht hc.2
theorem BoxT.rowed {t t2 sz2 base2 n2 k : Nat} {w w' : World} {v2 : Value} {ys : List Value} {ca : Array Value} (hb : BoxT t w k ca) (ht : t ≠ t2) (h2 : w.ownsRow base2 t2 sz2 v2 n2 ys) (hg : w.grownBy w' v2.ownBlock) : BoxT t w' k ca := by
  unfold BoxT at *
  rw [hg.block k (Array.getElem?_eq_some_iff.1 hb).1 fun e2 => ?_]
  · exact hb
  · obtain ⟨cur2, hc2⟩ := row_has h2 k e2.symm
    rw [hb] at hc2
    simp at hc2
    exact ht hc2.2
/-- A chunk as it lies. -/
structure Ck where
  l : List Nat
  a : Option Addr
  c : Nat
def Ck.v (x : Ck) : Value := .slice x.a x.l.length x.c
def Ck.cs (x : Ck) : List Value := [x.v]
def Ck.ok (base : Nat) (w : World) (x : Ck) : Prop := Own base w x.v x.l
/-- A snapshot. -/
structure Sp where
  n : Nat
  ep : Nat
  parts : List ByteArray
  chunks : List (List Nat)
/-- A snapshot as it lies. -/
structure SpV where
  n : Nat
  ep : Nat
  parts : List ByteArray
  ap : Option Addr
  cp : Nat
  ck : List Ck
  ac : Option Addr
  cc : Nat
def SpV.s (x : SpV) : Sp := ⟨x.n, x.ep, x.parts, x.ck.map Ck.l⟩
def SpV.vp (x : SpV) : Value := .slice x.ap x.parts.length x.cp
def SpV.vc (x : SpV) : Value := .slice x.ac x.ck.length x.cc
def SpV.cs (x : SpV) : List Value := [.int .u64 x.n, .int .u64 x.ep, x.vp, x.vc]
structure SpV.ok (base : Nat) (w : World) (x : SpV) : Prop where
  p : OwnS base w x.vp x.parts
  c : OwnL 22 1 Ck.cs base w x.vc x.ck
  ks : ∀ c ∈ x.ck, c.ok base w
def upOk (l : List Nat) : Bool := match unpk l with | some (_ :: _) => true | _ => false
/-- The chunks of a manifest's files, if each is whole and has its own name. -/
def chk1 (n i : Nat) (f : ByteArray) (rf : Option (List Nat)) (nxt : Option (List (List Nat))) : Option (List (List Nat)) := match rf with
  | some l => if f = partN n i (crc l) ∧ upOk l = true then nxt.map (l :: ·) else none
  | none => none
def chks (p : Pd) (n : Nat) : Nat → List ByteArray → Option (List (List Nat))
  | _, [] => some []
  | i, f :: fs => chk1 n i f (rdF p (nm f)) (chks p n (i + 1) fs)
def findS (p : Pd) (s : List UInt8) : Option Sp := match rdM p s with
  | some m => (chks p m.n 0 m.ss).map fun cs => ⟨m.n, m.ep, m.ss, cs⟩
  | none => none
def FPost (w : World) (r : Option Sp) (e : Ending) (w' : World) : Prop :=
  (∃ x : SpV, r = some x.s ∧ e = .returned (.tuple #[.agg #[.int .u64 x.n, .int .u64 x.ep, x.vp, x.vc], .bool true]) ∧ x.ok w.heap.size w' ∧ Below w.heap.size w w') ∨ (r = none ∧ e = .returned (.tuple #[.agg #[.int .u64 0, .int .u64 0, .slice none 0 0, .slice none 0 0], .bool false]) ∧ Below w.heap.size w w')
/-- In the midst of find: the result's box, the manifest's, the snapshot's, and what was found. -/
structure FI (w wr : World) (kM kS : Nat) (m : Man) (af : Option Addr) (cf : Nat) (v3 : Value) (acc : List Ck) : Prop where
  bel : Below w.heap.size w wr
  bR : BoxT 84 wr w.heap.size #[.int .u64 0, .int .u64 0, .slice none 0 0, .slice none 0 0]
  bM : BoxT 110 wr kM #[.int .u64 m.n, .int .u64 m.ep, .slice af m.ss.length cf]
  bS : BoxT 84 wr kS #[.int .u64 m.n, .int .u64 m.ep, .slice af m.ss.length cf, v3]
  files : OwnS w.heap.size wr (.slice af m.ss.length cf) m.ss
  own : OwnL 22 1 Ck.cs w.heap.size wr v3 acc
  oks : ∀ c ∈ acc, c.ok w.heap.size wr
  lS : w.heap.size < kS
theorem Ck.ok.below {base : Nat} {w w' : World} {x : Ck} (h : x.ok base w) (hb : Below w.heap.size w w') : x.ok base w' := Own.below h hb (Nat.le_refl _)
theorem FI.below {w wr w' : World} {kM kS : Nat} {m : Man} {af : Option Addr} {cf : Nat} {v3 : Value} {acc : List Ck} (h : FI w wr kM kS m af cf v3 acc) (hb : Below wr.heap.size wr w') : FI w w' kM kS m af cf v3 acc :=
  have hk := Kept.of_below (base := 0) hb
  ⟨h.bel.trans (hb.mono h.bel.size), h.bR.kept hk (by decide), h.bM.kept hk (by decide), h.bS.kept hk (by decide), h.files.below hb, h.own.below hb, fun c hc => (h.oks c hc).below hb, h.lS⟩
theorem Tryz.info22 : (Tryz.prog.info? 22).map (fun i => (i.zero, i.size, i.bytes)) = some (some (.slice none 0 0), 1, 24) := by kernel_rfl
/-- One more chunk. -/
theorem FI.add {w wr w' : World} {kM kS : Nat} {m : Man} {af : Option Addr} {cf : Nat} {v3 v4 : Value} {acc : List Ck} {c : Ck} (h : FI w wr kM kS m af cf v3 acc) (hc : c.ok w.heap.size wr) (ho : OwnL 22 1 Ck.cs w.heap.size w' v4 (acc ++ [c])) (hg : wr.grownBy w' v3.ownBlock) : FI w (w'.setCell ⟨kS, 3, none⟩ v4) kM kS m af cf v4 (acc ++ [c]) := by
  have hb := OwnL.bel h.bel h.own hg h.bel.size
  have bS := h.bS.rowed (by decide) h.own hg
  have bM := h.bM.rowed (by decide) h.own hg
  have bR := h.bR.rowed (by decide) h.own hg
  have hlS := h.lS
  have hne : kM ≠ kS := by
    rintro rfl
    have h1 := h.bM; have h2 := h.bS
    unfold BoxT at h1 h2
    rw [h1] at h2; simp at h2
  refine ⟨hb.setCell (Nat.le_of_lt hlS) _, bR.other _ _ (by omega), bM.other _ _ hne, bS.set 3 v4, ?_, row_setBox ho bS (by decide) _ _, ?_, hlS⟩
  · exact row_setBox (row_other (by decide) h.files h.own hg) bS (by decide) _ _
  · intro d hd
    refine row_setBox ?_ bS (by decide) _ _
    rcases List.mem_append.1 hd with hd | hd
    · exact row_other (by decide) (h.oks d hd) h.own hg
    · rcases List.mem_singleton.1 hd with rfl
      exact row_other (by decide) hc h.own hg
theorem fin84 {w : World} {k : Nat} {a0 a1 a2 a3 : Value} (hA : BoxT 84 w k #[a0, a1, a2, a3]) (v0 v1 v2 v3 : Value) (W : World)
    (hW : W = (((w.setCell ⟨k, 0, none⟩ v0).setCell ⟨k, 1, none⟩ v1).setCell ⟨k, 2, none⟩ v2).setCell ⟨k, 3, none⟩ v3) :
    Below k w W ∧ BoxT 84 W k #[v0, v1, v2, v3] ∧ (∀ base t sz v n xs, 84 ≠ t → w.ownsRow base t sz v n xs → W.ownsRow base t sz v n xs) := by
  subst hW
  have h0 : BoxT 84 _ _ #[v0, a1, a2, a3] := hA.set 0 v0
  have h1 : BoxT 84 _ _ #[v0, v1, a2, a3] := h0.set 1 v1
  have h2 : BoxT 84 _ _ #[v0, v1, v2, a3] := h1.set 2 v2
  refine ⟨?_, h2.set 3 v3, fun base t sz v n xs ht h => ?_⟩
  · exact ((((Below.refl k w).setCell (Nat.le_refl _) _).setCell (Nat.le_refl _) _).setCell (Nat.le_refl _) _).setCell (Nat.le_refl _) _
  · exact row_setBox (row_setBox (row_setBox (row_setBox h hA ht _ _) h0 ht _ _) h1 ht _ _) h2 ht _ _
theorem num_le (k : Nat) (s : List Nat × Bool) : (num k s).2.1.length ≤ s.1.length := by
  rcases num_left k s with h | ⟨_, h⟩
  · omega
  · rw [h]; exact Nat.le_refl _
theorem takeS_le (k : Nat) (s : List Nat × Bool) : (takeS k s).1.length ≤ s.1.length ∧ (takeS k s).2.1.length ≤ s.1.length := by
  unfold takeS
  split
  · simp; omega
  · simp
theorem rName_le (s : List Nat × Bool) : (rName s).1.size ≤ s.1.length ∧ (rName s).2.1.length ≤ s.1.length := by
  unfold rName
  have h1 := num_le 1 s
  have key : ∀ t : List Nat × Bool, t.1.length ≤ s.1.length → (strOf (takeS (num 1 s).1 t).1).size ≤ s.1.length ∧ (takeS (num 1 s).1 t).2.1.length ≤ s.1.length := fun t ht => by
    have h2 := takeS_le (num 1 s).1 t
    rw [strOf_size]
    exact ⟨Nat.le_trans h2.1 ht, Nat.le_trans h2.2 ht⟩
  by_cases h32 : 32 < (num 1 s).1
  · rw [if_pos h32]; exact key _ h1
  · rw [if_neg h32]; exact key _ h1
theorem rListS_le (n : Nat) : ∀ (s : List Nat × Bool), ∀ f ∈ (rListS n s).1, f.size ≤ s.1.length := by
  induction n with
  | zero => intro s f hf; simp [rListS] at hf
  | succ n ih =>
    intro s f hf
    unfold rListS at hf
    split at hf
    · cases hf
    · rcases List.mem_cons.1 hf with rfl | hf
      · exact (rName_le s).1
      · exact Nat.le_trans (ih _ f hf) (rName_le s).2
theorem rMan_le {l : List Nat} : ∀ f ∈ (rMan (l, false)).1.ss, f.size ≤ l.length := by
  intro f hf
  have h1 := rListS_le _ _ f hf
  have h2 := num_le 2 (num 8 (num 8 (l, false)).2).2
  have h3 := num_le 8 (num 8 (l, false)).2
  have h4 := num_le 8 (l, false)
  simp only at h4
  omega
theorem rMan_len {l : List Nat} (hb : Byts l) : (rMan (l, false)).1.ss.length ≤ 65535 := by
  have h1 := rListS_len (num 2 (num 8 (num 8 (l, false)).2).2).1 (num 2 (num 8 (num 8 (l, false)).2).2).2
  have h2 := num_lt (k := 2) (s := (num 8 (num 8 (l, false)).2).2) (num_byts (num_byts hb))
  have : (rMan (l, false)).1.ss.length ≤ (num 2 (num 8 (num 8 (l, false)).2).2).1 := h1
  omega
theorem rdM_some {p : Pd} {n : Nat} (ho : Ok p n) {s : List UInt8} {m : Man} (h : rdM p s = some m) : m.n < 18446744073709551616 ∧ m.ep < 18446744073709551616 ∧ m.n ≠ 0 ∧ s = nm (wholeN m.n) ∧ m.ss.length ≤ 65535 ∧ ∀ f ∈ m.ss, f.size ≤ 1048576 := by
  unfold rdM at h
  split at h
  · cases hr : rdF p s with
    | none => rw [hr] at h; cases h
    | some l =>
      rw [hr] at h
      dsimp only at h
      have hb := rdF_byts ho hr
      split at h
      case isTrue hh =>
        cases h
        have := man_lt hb.1
        exact ⟨this.1, this.2, hh.2.1, hh.2.2, rMan_len hb.1, fun f hf => Nat.le_trans (rMan_le f hf) hb.2⟩
      case isFalse => cases h
  · cases h

set_option maxHeartbeats 2000000 in
set_option maxRecDepth 100000 in
theorem vfind_any {w0 w : World} {k b n : Nat} {p : Pd} (h : St w0 w k b n p) (hg : Glob w) (s : ByteArray) (hs : s.size ≤ maxLen) (r : Option Sp) (hr : findS p (nm s) = r) :
    Calls Tryz.prog 32 #[.pointer (some ⟨k, 0, none⟩), .string s] w (FPost w r) := by
  have hb0 : Below w.heap.size w (w.alloc (.cells #[.int .u64 0, .int .u64 0, .slice none 0 0, .slice none 0 0] 84)) := (Below.refl _ _).alloc (Nat.le_refl _) _
  have bR0 := BoxT.new 84 w #[.int .u64 0, .int .u64 0, .slice none 0 0, .slice none 0 0]
  have HS := hide h
  have HG := hide hg
  obtain ⟨rm, hrm⟩ : ∃ rm, rdM p (nm s) = rm := ⟨_, rfl⟩
  have hm := readMan_any (h.below hb0) (hg.below hb0 hg.1) s hs rm hrm
  have HB0 := hide hb0
  have HBR := hide bR0
  unfold findS at hr
  rw [hrm] at hr
  have HR := hide hr
  have HRM := hide hrm
  clear h hg hr hb0 bR0 hrm
  go_enter Tryz.func32, Tryz.ntmps32
  go_wp2_with fail
  refine hm.mono ?_
  intro e w1 hq
  rcases hq with ⟨m, v1, rfl, rfl, ow1, b1⟩ | ⟨rfl, rfl, b1⟩
  · have hfacts := rdM_some HS.out.d.ok HRM.out
    obtain ⟨hn, hep, hn0, -, hlen, hsz⟩ := hfacts
    obtain ⟨af, cf, hv1⟩ := ow1.shape
    subst hv1
    have HF0 : Hid (FI w ((w1.alloc (.cells #[.int .u64 m.n, .int .u64 m.ep, .slice af m.ss.length cf] 110)).alloc (.cells #[.int .u64 m.n, .int .u64 m.ep, .slice af m.ss.length cf, .slice none 0 0] 84)) w1.heap.size (w1.heap.size + 1) m af cf (.slice none 0 0) []) := by
      have bR1 := HBR.out.kept (base := 0) (Kept.of_below b1) (by decide)
      have hbe := HB0.out.trans (b1.mono HB0.out.size)
      have hlt := bR1.lt
      exact ⟨(hbe.alloc hbe.size _).alloc (by simp; omega) _, (bR1.alloc _).alloc _, (BoxT.new 110 w1 _).alloc _, BoxT.new_at (by simp), ((ow1.mono (by simp)).alloc _).alloc _, OwnL.nil _ _ _ _ _, (fun c hc => by cases hc), by omega⟩
    have HRC : Hid ((chks p m.n 0 m.ss).map (fun cs => (⟨m.n, m.ep, m.ss, cs⟩ : Sp)) = r) := HR
    have HSZ := hide hsz
    clear hm ow1 b1 HR hsz HB0 HBR
    generalize hkm : w1.heap.size = kM at *
    have hchk0 : chks p m.n 0 m.ss = (chks p m.n 0 (m.ss.drop 0)).map (([] : List Ck).map Ck.l ++ ·) := by
      rw [List.drop_zero]; cases chks p m.n 0 m.ss <;> simp
    have HC0 := hide hchk0
    clear hchk0
    go_wp2
    go_loopw [34] (fun iv wr => ∃ (i : Nat) (v3 : Value) (acc : List Ck), i ≤ m.ss.length ∧ iv = .int .i64 i ∧ Hid (acc.length = i) ∧ Hid (FI w wr kM (kM + 1) m af cf v3 acc) ∧ Hid (chks p m.n 0 m.ss = (chks p m.n i (m.ss.drop i)).map (acc.map Ck.l ++ ·))) (fun iv _ => m.ss.length - (intOf iv).toNat)
    case atStart => exact ⟨0, _, [], Nat.zero_le _, rfl, rfl, HF0, HC0⟩
    case round =>
      obtain ⟨i, v3, acc, hi, rfl, HAL, HI, HC⟩ := hrel
      clear HF0 HC0
      obtain ⟨rc0, rc1, rc2, rc3⟩ := HI.out.bR.cells4
      have rf := HI.out.bR.free
      obtain ⟨mc0, mc1, mc2⟩ := HI.out.bM.cells3
      obtain ⟨sc0, sc1, sc2, sc3⟩ := HI.out.bS.cells4
      by_cases hlt : i < m.ss.length
      · obtain ⟨f, hf⟩ : ∃ f, m.ss[i]? = some f := ⟨_, List.getElem?_eq_getElem hlt⟩
        obtain ⟨ao', cap', e1, -, hsg⟩ := HI.out.files.sseg (by omega) (Nat.le_refl _)
        cases e1
        obtain ⟨gb, goff, rfl, -, hcell⟩ : ∃ b off, af = some ⟨b, off, none⟩ ∧ True ∧ wr.cell? ⟨b, off + i, none⟩ = some (.string f) := by
          rcases hsg with hsg | ⟨b', off', h5, h6, h7⟩
          · rw [hsg] at hlt; simp at hlt
          · exact ⟨b', off', h5, trivial, h7 i f hf⟩
        clear hsg
        have hfs : f.size ≤ maxLen := by
          have := HSZ.out f (List.mem_of_getElem? hf)
          unfold maxLen; omega
        obtain ⟨rf1, hrf1⟩ : ∃ x, rdF p (nm f) = x := ⟨_, rfl⟩
        have hrd := readFile_any (HS.out.below HI.out.bel) (HG.out.below HI.out.bel HG.out.1) f hfs rf1 hrf1
        have HCI : Hid (chks p m.n i (m.ss.drop i) = chk1 m.n i f rf1 (chks p m.n (i + 1) (m.ss.drop (i + 1)))) := by
          show _ = _
          rw [List.drop_eq_getElem_cons hlt, show m.ss[i] = f from by rw [List.getElem?_eq_getElem hlt] at hf; exact Option.some.inj hf]
          rw [chks, hrf1]
        have HBY : Hid (∀ l, rf1 = some l → Byts l ∧ l.length ≤ 1048576) := fun l hl => rdF_byts HS.out.d.ok (hrf1.trans hl)
        clear hf hrf1
        go_wp2_with fail
        refine hrd.mono ?_
        intro e w2 hq
        rcases hq with ⟨l, v2, rfl, rfl, ow2, b2⟩ | ⟨rfl, rfl, b2⟩
        · obtain ⟨hby, hll⟩ := HBY.out l rfl
          have hll' : l.length ≤ 140737488355328 := by omega
          obtain ⟨a2, c2, hv2, _⟩ := ow2.seg hll'
          subst hv2
          have HI2 := hide (HI.out.below b2)
          have CK2 : Hid (Ck.ok w.heap.size w2 ⟨l, a2, c2⟩) := Own.mono ow2 HI.out.bel.size
          have hpn := partName_any m.n i hn (by omega) (.slice a2 l.length c2) l w2 (ow2.seg hll') hby (HG.out.below HI2.out.bel HG.out.1)
          obtain ⟨me0, me1, me2⟩ := HI2.out.bM.cells3
          clear hrd b2 ow2 rc0 rc1 rc2 rc3 rf sc0 sc1 sc2 sc3 mc0 mc1 mc2 hcell
          go_wp2_with fail
          refine hpn.mono ?_
          rintro e w3 ⟨rfl, b3⟩
          have HI3 := hide (HI2.out.below b3)
          have CK3 := hide (CK2.out.below b3)
          have hbq := beq_string f (partN m.n i (crc l))
          clear hpn b3 CK2 HI2 me0 me1 me2
          by_cases he : f = partN m.n i (crc l)
          · rw [decide_eq_true he] at hbq
            have HEF := hide he
            clear he
            have hup := unpack_any (.slice a2 l.length c2) l w3 (CK3.out.seg hll') hby (HG.out.below HI3.out.bel HG.out.1) (by omega)
            go_wp2_with fail
            refine hup.mono ?_
            intro e w4 hq
            rcases hq with ⟨xs, v4, hxs, hne, rfl, ox4, -, b4⟩ | ⟨hxs, rfl, b4⟩
            · have hok : upOk l = true := by
                unfold upOk
                rw [hxs]
                cases xs with
                | nil => exact absurd rfl hne
                | cons y ys => rfl
              obtain ⟨a4, c4, hv4⟩ := ox4.shape
              subst hv4
              have HI4 := hide (HI3.out.below b4)
              have CK4 := hide (CK3.out.below b4)
              have HCN : Hid (chks p m.n 0 m.ss = (chks p m.n (i + 1) (m.ss.drop (i + 1))).map ((acc ++ [(⟨l, a2, c2⟩ : Ck)]).map Ck.l ++ ·)) := by
                show _ = _
                rw [HC.out, HCI.out, chk1]
                rw [if_pos ⟨HEF.out, hok⟩]
                cases chks p m.n (i + 1) (m.ss.drop (i + 1)) <;> simp
              obtain ⟨a3, c3, hv3⟩ := HI4.out.own.shape
              subst hv3
              obtain ⟨sd0, sd1, sd2, sd3⟩ := HI4.out.bS.cells4
              have sf := HI4.out.bS.free
              have hla : acc.length ≤ 1000000 := by have := HAL.out; omega
              have ba : Below w4.heap.size w4 (w4.alloc (.cells #[.slice a2 l.length c2] 22)) := (Below.refl _ _).alloc (Nat.le_refl _) _
              have HI5 := hide (HI4.out.below ba)
              have CK5 := hide (CK4.out.below ba)
              have hsz5 := HI5.out.bel.size
              clear hup hxs hne ox4 b4 HI3 CK3 hok ba HI CK4
              go_wp2_with (first | (at_builtin; refine app_ownL Tryz.info22 Tryz.underlying82 rfl (by decide) (by decide) (fun _ => rfl) (fun z u hu => by simp [Ck.cs] at hu; subst hu; rfl) rfl _ _ rfl w.heap.size _ acc rfl HI5.out.own ⟨w4.heap.size, 0, none⟩ 1 ⟨l, a2, c2⟩ rfl (fun j u hu => by match j, hu with | 0, hu => simp [Ck.cs, Ck.v] at hu; subst hu; simp [Addr.add]) hla hsz5 ?_) | fail)
              intro v5 w5 ho5 hg5
              obtain ⟨a5, c5, hv5⟩ := ho5.shape
              subst hv5
              have HI6 := hide (HI5.out.add CK5.out ho5 hg5)
              rw [show (acc ++ [(⟨l, a2, c2⟩ : Ck)]).length = acc.length + 1 from by simp] at HI6
              obtain ⟨se0, se1, se2, se3⟩ := (HI5.out.bS.rowed (by decide) HI5.out.own hg5).cells4
              have sf5 := (HI5.out.bS.rowed (by decide) HI5.out.own hg5).free
              clear ho5 hg5 HI5 CK5 HI4 sd0 sd1 sd2 sd3 sf
              go_wp2
              go_roundw
              case rel =>
                refine ⟨i + 1, _, _, by omega, by go_num, ?_, HI6, HCN⟩
                show _ = _; rw [List.length_append, HAL.out]; rfl
              case measure => simp [intOf]; omega
            · have HI4 := hide (HI3.out.below b4)
              have HRN : Hid (r = none) := by
                show _ = _
                have hno : ¬ (f = partN m.n i (crc l) ∧ upOk l = true) := fun hh => by
                  have := hh.2
                  unfold upOk at this
                  rcases hxs with hxs | hxs <;> rw [hxs] at this <;> cases this
                rw [← HRC.out, HC.out, HCI.out, chk1]
                rw [if_neg hno]; rfl
              obtain ⟨rd0, rd1, rd2, rd3⟩ := HI4.out.bR.cells4
              have rf2 := HI4.out.bR.free
              clear hup b4 hxs HI3 CK3
              go_wp2
              obtain ⟨hW, hx, -⟩ := fin84 HI4.out.bR (.int .u64 0) (.int .u64 0) (.slice none 0 0) (.slice none 0 0) _ rfl
              obtain ⟨x0, x1, x2, x3⟩ := hx.cells4
              exact bodyPost_ret (v := .tuple #[.agg #[.int .u64 0, .int .u64 0, .slice none 0 0, .slice none 0 0], .bool false]) (by simp [results, Tryz.results32, go_sem, x0, x1, x2, x3]) rfl (.inr ⟨HRN.out, rfl, HI4.out.bel.trans hW⟩)
          · rw [decide_eq_false he] at hbq
            have HRN : Hid (r = none) := by
              show _ = _
              rw [← HRC.out, HC.out, HCI.out, chk1]
              rw [if_neg (fun hh => he hh.1)]; rfl
            obtain ⟨rd0, rd1, rd2, rd3⟩ := HI3.out.bR.cells4
            have rf2 := HI3.out.bR.free
            clear he CK3
            go_wp2
            obtain ⟨hW, hx, -⟩ := fin84 HI3.out.bR (.int .u64 0) (.int .u64 0) (.slice none 0 0) (.slice none 0 0) _ rfl
            obtain ⟨x0, x1, x2, x3⟩ := hx.cells4
            exact bodyPost_ret (v := .tuple #[.agg #[.int .u64 0, .int .u64 0, .slice none 0 0, .slice none 0 0], .bool false]) (by simp [results, Tryz.results32, go_sem, x0, x1, x2, x3]) rfl (.inr ⟨HRN.out, rfl, HI3.out.bel.trans hW⟩)
        · have HI2 := hide (HI.out.below b2)
          have HRN : Hid (r = none) := by
            show _ = _
            rw [← HRC.out, HC.out, HCI.out]; rfl
          obtain ⟨rd0, rd1, rd2, rd3⟩ := HI2.out.bR.cells4
          have rf2 := HI2.out.bR.free
          clear hrd b2 rc0 rc1 rc2 rc3 rf sc0 sc1 sc2 sc3 mc0 mc1 mc2
          go_wp2
          obtain ⟨hW, hx, -⟩ := fin84 HI2.out.bR (.int .u64 0) (.int .u64 0) (.slice none 0 0) (.slice none 0 0) _ rfl
          obtain ⟨x0, x1, x2, x3⟩ := hx.cells4
          exact bodyPost_ret (v := .tuple #[.agg #[.int .u64 0, .int .u64 0, .slice none 0 0, .slice none 0 0], .bool false]) (by simp [results, Tryz.results32, go_sem, x0, x1, x2, x3]) rfl (.inr ⟨HRN.out, rfl, HI2.out.bel.trans hW⟩)
      · obtain rfl : i = m.ss.length := by omega
        obtain ⟨a3, c3, hv3⟩ := HI.out.own.shape
        subst hv3
        have HRS : Hid (r = some ⟨m.n, m.ep, m.ss, acc.map Ck.l⟩) := by
          show _ = _
          rw [← HRC.out, HC.out, List.drop_length, chks]; simp
        go_wp2
        obtain ⟨hW, hx, hrow⟩ := fin84 HI.out.bR (.int .u64 m.n) (.int .u64 m.ep) (.slice af m.ss.length cf) (.slice a3 acc.length c3) _ rfl
        obtain ⟨x0, x1, x2, x3⟩ := hx.cells4
        exact bodyPost_ret (v := .tuple #[.agg #[.int .u64 m.n, .int .u64 m.ep, .slice af m.ss.length cf, .slice a3 acc.length c3], .bool true]) (by simp [results, Tryz.results32, go_sem, x0, x1, x2, x3]) rfl (.inl ⟨⟨m.n, m.ep, m.ss, af, cf, acc, a3, c3⟩, HRS.out, rfl, ⟨hrow _ _ _ _ _ _ (by decide) HI.out.files, hrow _ _ _ _ _ _ (by decide) HI.out.own, fun c hc => hrow _ _ _ _ _ _ (by decide) (HI.out.oks c hc)⟩, HI.out.bel.trans hW⟩)
  · have bR1 := HBR.out.kept (base := 0) (Kept.of_below b1) (by decide)
    obtain ⟨c0, c1, c2, c3⟩ := bR1.cells4
    have fa := bR1.free
    have hbe := hide (HB0.out.trans (b1.mono HB0.out.size))
    have hw1 : w.heap.size < w1.heap.size := bR1.lt
    have HRN : Hid (r = none) := HR.out.symm
    clear hm
    go_wp2
    obtain ⟨hW, hx, -⟩ := fin84 bR1 (.int .u64 0) (.int .u64 0) (.slice none 0 0) (.slice none 0 0) _ rfl
    obtain ⟨x0, x1, x2, x3⟩ := (hx.alloc (.cells #[.int .u64 0, .int .u64 0, .slice none 0 0] 110)).cells4
    exact bodyPost_ret (v := .tuple #[.agg #[.int .u64 0, .int .u64 0, .slice none 0 0, .slice none 0 0], .bool false]) (by simp [results, Tryz.results32, go_sem, x0, x1, x2, x3]) rfl (.inr ⟨HRN.out, rfl, (hbe.out.trans hW).alloc (Nat.le_of_lt (Nat.lt_of_lt_of_le hw1 hW.size)) _⟩)
end Go.Proofs.YtbfhcbihgleddaaGreatDoor
