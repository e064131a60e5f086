/-
  Texts of the vault, in build order: VPack, VRow, VStore, VNames, VLay.
-/
import Derived.Test.YtbfhcbihgleddaaGreatDoorM25
import Derived.Deep.AppendLies
/-
  The vault's pack: the parts as chunks.
-/
namespace Go.Proofs.YtbfhcbihgleddaaGreatDoor
open Go.RowKit

/-- Parts that came in, as they lie. -/
structure SnsIn (B : Nat) (w : World) (v : Value) (xs : List SnV) : Prop where
  row : LSeg 6 SnV.cs B w v xs
  each : ∀ x ∈ xs, SnSeg B w (.slice x.am x.s.marks.length x.cm) (.slice x.ap x.s.panes.length x.cp) (.slice x.ac x.s.outs.length x.cc) x.s
  pos : ∀ x ∈ xs, ∀ o ∈ x.s.outs, 0 ≤ o.f.n
theorem SnsIn.below {B : Nat} {w w' : World} {v : Value} {xs : List SnV} (h : SnsIn B w v xs) (hb : Below B w w') : SnsIn B w' v xs := ⟨h.row.below hb, fun x hx => (h.each x hx).below hb, h.pos⟩
/-- The chunks of parts. -/
def pk : List (List Nat) → List Nat → List Sn → List (List Nat) × Int
  | acc, c, [] => (if c = [] then acc else acc ++ [c], 0)
  | acc, c, s :: ss => if sEr s = 0 then (if 1048568 < c.length + (sealed (sOut s)).length then pk (acc ++ [c]) (sealed (sOut s)) ss else pk acc (c ++ sealed (sOut s)) ss) else ([], sEr s)
def PPost (w : World) (r : List (List Nat) × Int) (e : Ending) (w' : World) : Prop :=
  ∃ (a : Option Addr) (c : Nat) (cks : List Ck), e = .returned (.tuple #[.slice a cks.length c, .int .i64 r.2]) ∧ r.1 = cks.map Ck.l ∧ OwnL 22 1 Ck.cs w.heap.size w' (.slice a cks.length c) cks ∧ (∀ x ∈ cks, x.ok w.heap.size w') ∧ Below w.heap.size w w'
/-- In the midst of pack. -/
structure PI (w wr : World) (v4 v5 : Value) (acc : List Ck) (c : List Nat) : Prop where
  bel : Below w.heap.size w wr
  own : OwnL 22 1 Ck.cs w.heap.size wr v4 acc
  oks : ∀ x ∈ acc, x.ok w.heap.size wr
  cur : Own w.heap.size wr v5 c
  far : ∀ x ∈ acc, ∀ g, v5.ownBlock = some g → x.v.ownBlock ≠ some g
  nil : c = [] → v5 = .slice none 0 0
theorem PI.below {w wr w' : World} {v4 v5 : Value} {acc : List Ck} {c : List Nat} (h : PI w wr v4 v5 acc c) (hb : Below wr.heap.size wr w') : PI w w' v4 v5 acc c :=
  ⟨h.bel.trans (hb.mono h.bel.size), h.own.below hb, fun x hx => (h.oks x hx).below hb, h.cur.below hb (Nat.le_refl _), h.far, h.nil⟩
theorem own_form {base : Nat} {w : World} {v : Value} {l : List Nat} (h : Own base w v l) : ∃ a cap, v = .slice a l.length cap := by
  rcases h.2 with ⟨rfl, h0⟩ | ⟨g, cap, cur, rfl, _⟩
  · exact ⟨none, 0, by rw [h0]⟩
  · exact ⟨_, cap, rfl⟩
/-- The chunk goes to the others, and a new one begins. -/
theorem PI.push {w wr w' : World} {v4 v6 : Value} {acc : List Ck} {c : List Nat} {a5 : Option Addr} {c5 : Nat} (h : PI w wr v4 (.slice a5 c.length c5) acc c) (ho : OwnL 22 1 Ck.cs w.heap.size w' v6 (acc ++ [⟨c, a5, c5⟩])) (hg : wr.grownBy w' v4.ownBlock) : PI w w' v6 (.slice none 0 0) (acc ++ [⟨c, a5, c5⟩]) [] := by
  refine ⟨OwnL.bel h.bel h.own hg h.bel.size, ho, ?_, Own.nil _ _, (fun x _ g e => by cases e), fun _ => rfl⟩
  intro x hx
  rcases List.mem_append.1 hx with hx | hx
  · exact row_other (by decide) (h.oks x hx) h.own hg
  · rcases List.mem_singleton.1 hx with rfl
    exact row_other (by decide) h.cur h.own hg
/-- The chunk grows. -/
theorem PI.grow {w wr w' : World} {v4 v5 : Value} {acc : List Ck} {c d : List Nat} {g cap : Nat} (h : PI w wr v4 v5 acc c) (ho : w'.ownsRow w.heap.size 5 1 (.slice (some ⟨g, 0, none⟩) (c.length + d.length) cap) (c.length + d.length) (bs c ++ bs d)) (hg : wr.grownBy w' v5.ownBlock) (hat : v5.ownBlock = some g ∨ g = wr.heap.size) (hd : d ≠ []) : PI w w' v4 (.slice (some ⟨g, 0, none⟩) (c.length + d.length) cap) acc (c ++ d) := by
  have hne : c ++ d ≠ [] := by simp [hd]
  have hfar : ∀ x ∈ acc, ∀ g', v5.ownBlock = some g' → x.v.ownBlock ≠ some g' := h.far
  have hst : ∀ x ∈ acc, ∀ gx, x.v.ownBlock = some gx → w'.heap[gx]? = wr.heap[gx]? := fun x hx gx e => by
    obtain ⟨cur, hc⟩ := row_has (h.oks x hx) gx e
    exact hg.block gx (Array.getElem?_eq_some_iff.1 hc).1 fun e2 => hfar x hx gx e2.symm e
  refine ⟨?_, row_other (by decide) h.own h.cur hg, fun x hx => row_back (h.oks x hx) (hst x hx), ?_, ?_, fun e => absurd e hne⟩
  · have hb := h.bel
    exact ⟨hg.os.trans hb.os, hg.tape.trans hb.tape, hg.output.trans hb.output, Nat.le_trans hb.size hg.size, fun i hi => (hg.block i (by have := hb.size; omega) (fun e => by have := (World.ownsRow.lt h.cur i e.symm).1; omega)).trans (hb.block i hi)⟩
  · show w'.ownsRow w.heap.size 5 1 _ (c ++ d).length (bs (c ++ d))
    rw [List.length_append, bs_append]; exact ho
  · intro x hx g' e ex
    obtain rfl : g = g' := Option.some.inj e
    rcases hat with hat | hat
    · exact hfar x hx g hat ex
    · obtain ⟨cur, hc⟩ := row_has (h.oks x hx) g ex
      have := (Array.getElem?_eq_some_iff.1 hc).1
      omega
theorem sOut_byts (s : Sn) : Byts (sOut s) := by
  unfold sOut
  split
  · exact Byts.nil
  · split
    · exact snb_byts s
    · exact Byts.nil

/-- append of a row of bytes onto an own one: the old block, or a new one. -/
theorem app_chunk {w : World} {ops : Array Oper} {rest : List Oper} {o : Oper} {a : Act} {Q : Exit → Act → World → Prop} (hgd : o.guard = none) (s x : Operand)
    (ho : o.op = .call { callee := .builtin .append, args := #[s, x], argTypes := #[22, 22] }) (base : Nat) (v : Value) (c : List Nat) (hs : a.eval s = v) (hown : Own base w v c)
    (g9 cap9 b9 : Nat) (d : List Nat) (hx : a.eval x = .slice (some ⟨g9, 0, none⟩) d.length cap9) (h9 : Own b9 w (.slice (some ⟨g9, 0, none⟩) d.length cap9) d) (hd : d ≠ []) (hl : c.length + d.length ≤ 10000000) (hbase : base ≤ w.heap.size)
    (h : ∀ g cap w', w'.ownsRow base 5 1 (.slice (some ⟨g, 0, none⟩) (c.length + d.length) cap) (c.length + d.length) (bs c ++ bs d) → w.grownBy w' v.ownBlock → (v.ownBlock = some g ∨ g = w.heap.size) → wpList Tryz.prog ops Q rest (a.put o.dst (.slice (some ⟨g, 0, none⟩) (c.length + d.length) cap)) w') : wpList Tryz.prog ops Q (o :: rest) a w := by
  obtain ⟨i0, hi, hz0, hz1, hz2⟩ := info_parts Tryz.info5
  have hdl : 0 < d.length := List.length_pos_iff.2 hd
  refine wpList_append_lies w hgd s x 22 ho base 5 i0 (.int .u8 0) 1 1 Tryz.underlying22 hi hz0 hz1 hz2 rfl (by decide) v c.length (bs c) hs hown ⟨g9, 0, none⟩ d.length cap9 (bs d) hx (by simp [bs]) (World.ownsRow.cells h9 rfl) ?_ hdl (by unfold maxLen; omega) (by omega) hbase w.heap.size rfl ?_
  · intro u hu
    simp only [bs, List.mem_map] at hu
    obtain ⟨y, _, rfl⟩ := hu
    rfl
  · intro g cap w' h1 h2 h3 _
    exact h g cap w' h1 h2 h3

set_option maxHeartbeats 4000000 in
set_option maxRecDepth 100000 in
theorem pack_any (v : Value) (xs : List SnV) (w : World) (h : SnsIn w.heap.size w v xs) (hg : Glob w) (hl : xs.length ≤ 100000) : Calls Tryz.prog 37 #[v] w (PPost w (pk [] [] (xs.map SnV.s))) := by
  have H0 : Hid (PI w w (.slice none 0 0) (.slice none 0 0) [] []) := ⟨Below.refl _ _, OwnL.nil _ _ _ _ _, (fun x hx => by cases hx), Own.nil _ _, (fun x hx => by cases hx), fun _ => rfl⟩
  have HX := hide h
  have HG := hide hg
  generalize hr : pk [] [] (xs.map SnV.s) = r
  have HR : Hid (pk (([] : List Ck).map Ck.l) [] ((xs.drop 0).map SnV.s) = r) := by rw [List.drop_zero]; exact hr
  obtain ⟨ax, cx, rfl, hxl, hxs⟩ := h.row
  clear h hg hr hxs
  go_enter Tryz.func37, Tryz.ntmps37
  go_wp2
  go_loopw [4, 5, 13] (fun v4 v5 iv wr => ∃ (i : Nat) (acc : List Ck) (c : List Nat), i ≤ xs.length ∧ iv = .int .i64 i ∧ Hid (PI w wr v4 v5 acc c) ∧ Hid (pk (acc.map Ck.l) c ((xs.drop i).map SnV.s) = r) ∧ Hid (acc.length ≤ i ∧ c.length ≤ 1048568)) (fun _ _ iv _ => xs.length - (intOf iv).toNat)
  case atStart => exact ⟨0, [], [], Nat.zero_le _, rfl, H0, HR, Nat.le_refl _, by simp⟩
  case round =>
    obtain ⟨i, acc, c, hi, rfl, HI, HE, HL⟩ := hrel
    clear H0 HR
    obtain ⟨a4, c4, hv4⟩ := HI.out.own.shape
    subst hv4
    obtain ⟨a5, c5, hv5⟩ := own_form HI.out.cur
    subst hv5
    have hal : acc.length ≤ 1000000 := by have := HL.out.1; omega
    have hcl := HL.out.2
    by_cases hlt : i < xs.length
    · obtain ⟨x, hx⟩ : ∃ x, xs[i]? = some x := ⟨_, List.getElem?_eq_getElem hlt⟩
      have hmem := List.mem_of_getElem? hx
      have HX1 := hide (HX.out.below HI.out.bel)
      obtain ⟨ax', cx', e1, -, hsg⟩ := HX1.out.row
      cases e1
      obtain ⟨gb, go, rfl, hc0, hc1, hc2, hc3, hc4, hc5⟩ : ∃ gb go, ax = some ⟨gb, go, none⟩ ∧ wr.cell? ⟨gb, go + i * 6, none⟩ = some (.int .i64 x.s.task) ∧ wr.cell? ⟨gb, go + i * 6 + 1, none⟩ = some (.int .i64 x.s.off) ∧ wr.cell? ⟨gb, go + i * 6 + 2, none⟩ = some (.int .i64 x.s.mark) ∧ wr.cell? ⟨gb, go + i * 6 + 3, none⟩ = some (.slice x.am x.s.marks.length x.cm) ∧ wr.cell? ⟨gb, go + i * 6 + 4, none⟩ = some (.slice x.ap x.s.panes.length x.cp) ∧ wr.cell? ⟨gb, go + i * 6 + 5, none⟩ = some (.slice x.ac x.s.outs.length x.cc) := by
        rcases hsg with hsg | ⟨b', off', h5, h6, h7⟩
        · rw [hsg] at hlt; simp at hlt
        · exact ⟨b', off', h5, h7 i x hx 0 _ rfl, h7 i x hx 1 _ rfl, h7 i x hx 2 _ rfl, h7 i x hx 3 _ rfl, h7 i x hx 4 _ rfl, h7 i x hx 5 _ rfl⟩
      clear hsg
      have HEN : Hid (r = (if sEr x.s = 0 then (if 1048568 < c.length + (sealed (sOut x.s)).length then pk (acc.map Ck.l ++ [c]) (sealed (sOut x.s)) ((xs.drop (i + 1)).map SnV.s) else pk (acc.map Ck.l) (c ++ sealed (sOut x.s)) ((xs.drop (i + 1)).map SnV.s)) else ([], sEr x.s))) := by
        show _ = _
        rw [← HE.out, List.drop_eq_getElem_cons hlt, show xs[i] = x from by rw [List.getElem?_eq_getElem hlt] at hx; exact Option.some.inj hx, List.map_cons, pk]
      have ba : Below wr.heap.size wr (wr.alloc (.cells #[.int .i64 x.s.task, .int .i64 x.s.off, .int .i64 x.s.mark, .slice x.am x.s.marks.length x.cm, .slice x.ap x.s.panes.length x.cp, .slice x.ac x.s.outs.length x.cc] 27)) := (Below.refl _ _).alloc (Nat.le_refl _) _
      have hsz := HI.out.bel.size
      have hsn := Snap_any x.s _ _ _ (wr.alloc (.cells #[.int .i64 x.s.task, .int .i64 x.s.off, .int .i64 x.s.mark, .slice x.am x.s.marks.length x.cm, .slice x.ap x.s.panes.length x.cp, .slice x.ac x.s.outs.length x.cc] 27)) (HX.out.pos x hmem) (((HX1.out.each x hmem).below (ba.mono hsz)).mono (Nat.le_trans hsz ba.size))
      have HI1 := hide (HI.out.below ba)
      clear ba hx hmem HX1
      go_wp2_with fail
      refine hsn.mono ?_
      rintro e w2 ⟨v8, rfl, ow8, b2⟩
      have HI2 := hide (HI1.out.below b2)
      have hsl := sOut_len x.s
      obtain ⟨a8, c8, hv8⟩ := own_form ow8
      subst hv8
      clear hsn HI1 b2 hc0 hc1 hc2 hc3 hc4 hc5
      by_cases hse : sEr x.s = 0
      · rw [hse]
        have HEN2 := HEN
        rw [if_pos hse] at HEN2
        have hsb := sOut_byts x.s
        have hseal := Seal_any (.slice a8 (sOut x.s).length c8) (sOut x.s) w2 (ow8.seg (by omega)) hsb (HG.out.below HI2.out.bel HG.out.1) (by omega)
        have hdl := sealed_len (sOut x.s)
        generalize sealed (sOut x.s) = d at *
        generalize (sOut x.s).length = ol at *
        have hdne : d ≠ [] := by intro e; rw [e] at hdl; simp at hdl
        have hd8 : 8 ≤ d.length := by omega
        have hd9 : d.length ≤ 1000008 := by omega
        clear HEN ow8 hsb hse hdl
        go_wp2_with fail
        refine hseal.mono ?_
        rintro e w3 ⟨v9, rfl, ow9, b3⟩
        obtain ⟨g9, cap9, hv9, -, -⟩ := ow9.form (by omega)
        subst hv9
        have HI3 := hide (HI2.out.below b3)
        have OW9 := hide ow9
        clear hseal HI2 b3 ow9
        by_cases hbig : 1048568 < c.length + d.length
        · rw [if_pos hbig] at HEN2
          have hbig' : (1048568 : Int) < (c.length : Int) + (d.length : Int) := by omega
          have ba : Below w3.heap.size w3 (w3.alloc (.cells #[.slice a5 c.length c5] 22)) := (Below.refl _ _).alloc (Nat.le_refl _) _
          have HI4 := hide (HI3.out.below ba)
          have OW94 := hide (OW9.out.below ba (Nat.le_refl _))
          have hsz4 := HI4.out.bel.size
          clear ba HI3 OW9
          go_wp2_with (first | (at_builtin; refine app_ownL Tryz.info22 Tryz.underlying82 rfl (by decide) (by decide) (fun _ => rfl) (fun z u hu => by simp [Ck.cs] at hu; subst hu; rfl) rfl _ _ rfl w.heap.size _ acc rfl HI4.out.own ⟨w3.heap.size, 0, none⟩ 1 ⟨c, a5, c5⟩ rfl (fun j u hu => by match j, hu with | 0, hu => simp [Ck.cs, Ck.v] at hu; subst hu; simp [Addr.add]) hal hsz4 ?_) | fail)
          intro v6 w6 ho6 hg6
          have HI6 := hide (HI4.out.push ho6 hg6)
          have OW96 : Hid (Own w2.heap.size w6 (.slice (some ⟨g9, 0, none⟩) d.length cap9) d) := row_other (by decide) OW94.out HI4.out.own hg6
          have hsz6 := HI6.out.bel.size
          clear ho6 hg6 HI4 OW94
          go_wp2_with (first | (at_builtin; refine app_chunk rfl _ _ rfl w.heap.size (.slice none 0 0) [] rfl HI6.out.cur g9 cap9 w2.heap.size d rfl OW96.out hdne (by simp; omega) hsz6 ?_) | fail)
          intro g7 cap7 w7 ho7 hg7 hat7
          have HI7 : Hid (PI w w7 v6 (.slice (some ⟨g7, 0, none⟩) d.length cap7) (acc ++ [⟨c, a5, c5⟩]) d) := by
            have := HI6.out.grow (g := g7) (cap := cap7) (d := d) (by simpa using ho7) hg7 hat7 hdne
            rw [List.nil_append, List.length_nil, Nat.zero_add] at this
            exact this
          clear ho7 hg7 hat7 HI6 OW96
          go_wp2
          go_roundw
          case rel =>
            refine ⟨i + 1, _, d, by omega, by go_num, HI7, ?_, ?_⟩
            · show _ = _; rw [HEN2.out]; simp
            · have := HL.out; exact ⟨by simp; omega, by omega⟩
          case measure => simp [intOf]; omega
        · rw [if_neg hbig] at HEN2
          have hbig' : ¬ ((1048568 : Int) < (c.length : Int) + (d.length : Int)) := by omega
          have hsz3 := HI3.out.bel.size
          go_wp2_with (first | (at_builtin; refine app_chunk rfl _ _ rfl w.heap.size (.slice a5 c.length c5) c rfl HI3.out.cur g9 cap9 w2.heap.size d rfl OW9.out hdne (by omega) hsz3 ?_) | fail)
          intro g7 cap7 w7 ho7 hg7 hat7
          have HI7 := hide (HI3.out.grow ho7 hg7 hat7 hdne)
          clear ho7 hg7 hat7 HI3 OW9
          go_wp2
          go_roundw
          case rel =>
            refine ⟨i + 1, acc, c ++ d, by omega, by go_num, HI7, ?_, ?_⟩
            · show _ = _; rw [HEN2.out]
            · have := HL.out; exact ⟨by omega, by simp; omega⟩
          case measure => simp [intOf]; omega
      · have HRN : Hid (r = ([], sEr x.s)) := by
          show _ = _
          rw [HEN.out, if_neg hse]
        have hse' : (sEr x.s == 0) = false := by simpa using hse
        clear ow8
        go_wp2
        go_ret2
        rw [HRN.out]
        exact ⟨none, 0, [], rfl, rfl, OwnL.nil _ _ _ _ _, (fun x hx => by cases hx), HI2.out.bel⟩
    · obtain rfl : i = xs.length := by omega
      have HRN : Hid (r = (if c = [] then acc.map Ck.l else acc.map Ck.l ++ [c], 0)) := by
        show _ = _
        rw [← HE.out, List.drop_length]; rfl
      by_cases hc : c = []
      · rw [if_pos hc] at HRN
        subst hc
        go_wp2
        go_ret2
        rw [HRN.out]
        exact ⟨a4, c4, acc, rfl, rfl, HI.out.own, HI.out.oks, HI.out.bel⟩
      · rw [if_neg hc] at HRN
        have hcp : 0 < c.length := List.length_pos_iff.2 hc
        have ba : Below wr.heap.size wr (wr.alloc (.cells #[.slice a5 c.length c5] 22)) := (Below.refl _ _).alloc (Nat.le_refl _) _
        have HI4 := hide (HI.out.below ba)
        have hsz4 := HI4.out.bel.size
        clear ba HI
        go_wp2_with (first | (at_builtin; refine app_ownL Tryz.info22 Tryz.underlying82 rfl (by decide) (by decide) (fun _ => rfl) (fun z u hu => by simp [Ck.cs] at hu; subst hu; rfl) rfl _ _ rfl w.heap.size _ acc rfl HI4.out.own ⟨wr.heap.size, 0, none⟩ 1 ⟨c, a5, c5⟩ rfl (fun j u hu => by match j, hu with | 0, hu => simp [Ck.cs, Ck.v] at hu; subst hu; simp [Addr.add]) hal hsz4 ?_) | fail)
        intro v6 w6 ho6 hg6
        have HI6 := hide (HI4.out.push ho6 hg6)
        obtain ⟨a6, c6, hv6⟩ := ho6.shape
        subst hv6
        clear ho6 hg6 HI4
        go_wp2
        go_ret2
        rw [HRN.out]
        exact ⟨a6, c6, _, by simp, by simp, HI6.out.own, HI6.out.oks, HI6.out.bel⟩
end Go.Proofs.YtbfhcbihgleddaaGreatDoor
/-
  Rows that begin at any place of their block: what append and cutting off the head leave.
-/
namespace Go.Proofs.YtbfhcbihgleddaaGreatDoor
open Go.RowKit

theorem flat_get {α : Type} {sz : Nat} {cs : α → List Value} (hcs : ∀ x, (cs x).length = sz) (xs : List α) : ∀ (i j : Nat) (x : α) (u : Value), xs[i]? = some x → (cs x)[j]? = some u → (xs.flatMap cs)[i * sz + j]? = some u := by
  induction xs with
  | nil => intro i j x u h; simp at h
  | cons y ys ih =>
    intro i j x u h hu
    have hj : j < sz := by rw [← hcs x]; exact (List.getElem?_eq_some_iff.1 hu).1
    rw [List.flatMap_cons]
    match i, h with
    | 0, h =>
      obtain rfl : y = x := by simpa using h
      rw [Nat.zero_mul, Nat.zero_add, List.getElem?_append_left (by rw [hcs]; exact hj)]; exact hu
    | i + 1, h =>
      rw [List.getElem?_append_right (by rw [hcs, Nat.succ_mul]; omega), hcs, show (i + 1) * sz + j - sz = i * sz + j by rw [Nat.succ_mul]; omega]
      exact ih i j x u (by simpa using h) hu
theorem flat_size {α : Type} {sz : Nat} {cs : α → List Value} (hcs : ∀ x, (cs x).length = sz) (xs : List α) : (xs.flatMap cs).length = xs.length * sz := by
  induction xs with
  | nil => simp
  | cons y ys ih => rw [List.flatMap_cons, List.length_append, hcs, ih, List.length_cons, Nat.succ_mul]; omega
theorem BoxT.setCells {t k : Nat} (vs : List Value) : ∀ {w : World} {ca : Array Value} {j : Nat}, BoxT t w k ca → BoxT t (w.setCells k j vs) k (setL ca j vs) := by
  induction vs with
  | nil => intro w ca j h; exact h
  | cons v vs ih => intro w ca j h; exact ih (h.set j v)
theorem setL_size (vs : List Value) : ∀ (ca : Array Value) (j : Nat), (setL ca j vs).size = ca.size := by
  induction vs with
  | nil => intro ca j; rfl
  | cons v vs ih => intro ca j; rw [setL, ih]; simp
theorem setL_out (vs : List Value) : ∀ (ca : Array Value) (j i : Nat), i < j ∨ j + vs.length ≤ i → (setL ca j vs)[i]? = ca[i]? := by
  induction vs with
  | nil => intro ca j i _; rfl
  | cons v vs ih =>
    intro ca j i h
    rw [setL, ih _ _ _ (by simp only [List.length_cons] at h; omega), Array.getElem?_setIfInBounds_ne (by simp only [List.length_cons] at h; omega)]
theorem setL_in (vs : List Value) : ∀ (ca : Array Value) (j i : Nat) (u : Value), j + vs.length ≤ ca.size → vs[i]? = some u → (setL ca j vs)[j + i]? = some u := by
  induction vs with
  | nil => intro ca j i u _ h; simp at h
  | cons v vs ih =>
    intro ca j i u hl h
    simp only [List.length_cons] at hl
    match i, h with
    | 0, h =>
      obtain rfl : v = u := by simpa using h
      rw [setL, setL_out _ _ _ _ (by omega)]
      simp [Array.getElem?_setIfInBounds]; omega
    | i + 1, h =>
      rw [setL, show j + (i + 1) = (j + 1) + i by omega]
      exact ih _ _ _ _ (by simp; omega) (by simpa using h)
theorem grown_setCells (g : Nat) (vs : List Value) : ∀ (w : World) (o : Nat), w.grownBy (w.setCells g o vs) (some g) := by
  induction vs with
  | nil => intro w o; exact grownBy_refl _ _
  | cons v vs ih => intro w o; exact grownBy_trans (grownBy_set w g o v) (ih _ _)
/-- v is a slice of just the things xs, somewhere in a block of such that lies from base on. -/
def Row {α : Type} (t sz : Nat) (cs : α → List Value) (base : Nat) (w : World) (v : Value) (xs : List α) : Prop :=
  (v = .slice none 0 0 ∧ xs = []) ∨ ∃ g off cap cur, v = .slice (some ⟨g, off, none⟩) xs.length cap ∧ base ≤ g ∧ BoxT t w g cur ∧ xs.length ≤ cap ∧ cap ≤ maxLen ∧ off + cap * sz ≤ cur.size ∧ ∀ j u, (xs.flatMap cs)[j]? = some u → cur[off + j]? = some u
section
variable {α : Type} {t sz : Nat} {cs : α → List Value} {base : Nat} {w w' : World} {v : Value} {xs : List α}
theorem Row.nil (t sz : Nat) (cs : α → List Value) (base : Nat) (w : World) : Row t sz cs base w (.slice none 0 0) [] := .inl ⟨rfl, rfl⟩
theorem Row.of_own (h : OwnL t sz cs base w v xs) : Row t sz cs base w v xs := by
  have hl := h.1
  rcases h.2 with ⟨h1, h0⟩ | ⟨g, cap, cur, h1, h2, h3, h4, h5, h6, h7⟩
  · exact .inl ⟨h1, List.length_eq_zero_iff.1 h0⟩
  · refine .inr ⟨g, 0, cap, cur, h1, h2, h3, h4, h5, by omega, fun j u hj => ?_⟩
    rw [← h7, List.getElem?_take] at hj
    split at hj
    · rw [Nat.zero_add]; simpa using hj
    · cases hj
theorem Row.back (h : Row t sz cs base w v xs) (hb : ∀ g, v.ownBlock = some g → w'.heap[g]? = w.heap[g]?) : Row t sz cs base w' v xs := by
  rcases h with h | ⟨g, off, cap, cur, rfl, h2, h3, h4⟩
  · exact .inl h
  · exact .inr ⟨g, off, cap, cur, rfl, h2, by unfold BoxT at *; rw [hb g rfl]; exact h3, h4⟩
theorem Row.below (h : Row t sz cs base w v xs) (hb : Below w.heap.size w w') : Row t sz cs base w' v xs := by
  rcases h with h | ⟨g, off, cap, cur, rfl, h2, h3, h4⟩
  · exact .inl h
  · exact .inr ⟨g, off, cap, cur, rfl, h2, by have := h3.lt; unfold BoxT at *; rw [hb.block g this]; exact h3, h4⟩
theorem Row.has (h : Row t sz cs base w v xs) (g : Nat) (hg : v.ownBlock = some g) : ∃ cur, BoxT t w g cur := by
  rcases h with ⟨rfl, _⟩ | ⟨g', off, cap, cur, rfl, h2, h3, _⟩
  · cases hg
  · obtain rfl : g' = g := Option.some.inj hg
    exact ⟨cur, h3⟩
theorem Row.at (h : Row t sz cs base w v xs) (g : Nat) (hg : v.ownBlock = some g) : base ≤ g := by
  rcases h with ⟨rfl, _⟩ | ⟨g', off, cap, cur, rfl, h2, h3, _⟩
  · cases hg
  · obtain rfl : g' = g := Option.some.inj hg
    exact h2
theorem Row.shape (h : Row t sz cs base w v xs) : ∃ a c, v = .slice a xs.length c := by
  rcases h with ⟨rfl, rfl⟩ | ⟨g, off, cap, cur, rfl, _⟩
  · exact ⟨none, 0, rfl⟩
  · exact ⟨_, cap, rfl⟩
/-- The i-th thing's cells. -/
theorem Row.read (h : Row t sz cs base w v xs) (hcs : ∀ x, (cs x).length = sz) {i : Nat} {x : α} (hx : xs[i]? = some x) : ∃ g off cap, v = .slice (some ⟨g, off, none⟩) xs.length cap ∧ ∀ j u, (cs x)[j]? = some u → w.cell? ⟨g, off + (i * sz + j), none⟩ = some u := by
  rcases h with ⟨_, rfl⟩ | ⟨g, off, cap, cur, rfl, h2, h3, h4, h5, h6, h7⟩
  · simp at hx
  · refine ⟨g, off, cap, rfl, fun j u hu => ?_⟩
    rw [h3.cellAt]
    exact h7 _ u (flat_get hcs xs i j x u hx hu)
/-- Without its head. -/
theorem Row.tail {x : α} {ao : Option Addr} {n cap : Nat} (h : Row t sz cs base w (.slice ao n cap) (x :: xs)) (hcs : ∀ x, (cs x).length = sz) : ∃ g off, ao = some ⟨g, off, none⟩ ∧ n = xs.length + 1 ∧ 1 ≤ cap ∧ (cap ≠ 1 → Row t sz cs base w (.slice (some ⟨g, off + sz, none⟩) xs.length (cap - 1)) xs) ∧ (cap = 1 → Row t sz cs base w (.slice (some ⟨g, off, none⟩) xs.length 0) xs ∧ xs = []) := by
  rcases h with ⟨_, h⟩ | ⟨g, off, cap', cur, e, h2, h3, h4, h5, h6, h7⟩
  · cases h
  · cases e
    simp only [List.length_cons] at h4
    refine ⟨g, off, rfl, by simp, by omega, fun hc => .inr ⟨g, off + sz, cap - 1, cur, rfl, h2, h3, by omega, by omega, ?_, fun j u hu => ?_⟩, fun hc => ⟨.inr ⟨g, off, 0, cur, rfl, h2, h3, by omega, by omega, by omega, fun j u hu => ?_⟩, List.length_eq_zero_iff.1 (by omega)⟩⟩
    · have : cap * sz = (cap - 1) * sz + sz := by
        obtain ⟨c, rfl⟩ : ∃ c, cap = c + 1 := ⟨cap - 1, by omega⟩
        rw [Nat.succ_mul]; rfl
      omega
    · rw [Nat.add_assoc]
      refine h7 _ u ?_
      rw [List.flatMap_cons, List.getElem?_append_right (by rw [hcs]; omega), hcs, Nat.add_sub_cancel_left]; exact hu
    · have : xs = [] := List.length_eq_zero_iff.1 (by omega)
      subst this; simp at hu
end
/-- append's law at such rows. -/
theorem app_row {α : Type} {t sl sz by_ : Nat} {z : Value} {cs : α → List Value} (hinfo : (Tryz.prog.info? t).map (fun i => (i.zero, i.size, i.bytes)) = some (some z, sz, by_)) (hund : Tryz.prog.underlying sl = some (.slice t)) (hz : z.cells.size = sz) (hsz : 0 < sz) (hby : by_ ≤ 100)
    (hcs : ∀ x, (cs x).length = sz) (h1c : ∀ x, ∀ u ∈ cs x, u.oneCell' = true)
    {w : World} {ops : Array Oper} {rest : List Oper} {o : Oper} {a : Act} {Q : Exit → Act → World → Prop} (hgd : o.guard = none) (s x : Operand)
    (ho : o.op = .call { callee := .builtin .append, args := #[s, x], argTypes := #[sl, sl] }) (base : Nat) (v : Value) (xs : List α) (hs : a.eval s = v) (hown : Row t sz cs base w v xs)
    (ad : Addr) (c : Nat) (y : α) (hx : a.eval x = .slice (some ad) 1 c) (hnews : ∀ j u, (cs y)[j]? = some u → w.cell? (ad.add j) = some u) (hl : xs.length ≤ 1000000) (hbase : base ≤ w.heap.size)
    (h : ∀ v' w', Row t sz cs base w' v' (xs ++ [y]) → w.grownBy w' v.ownBlock → (∀ g, v'.ownBlock = some g → v.ownBlock = some g ∨ w.heap.size ≤ g) → wpList Tryz.prog ops Q rest (a.put o.dst v') w') : wpList Tryz.prog ops Q (o :: rest) a w := by
  obtain ⟨i0, hi, hz0, hz1, hz2⟩ := info_parts hinfo
  have hb2 : (xs.length + 1) * by_ ≤ 140737488355328 := by
    have : (xs.length + 1) * by_ ≤ 1000001 * 100 := Nat.mul_le_mul (by omega) hby
    omega
  have grown : ∀ v' w', w'.ownsRow w.heap.size t sz v' (xs.length + 1) (xs.flatMap cs ++ cs y) → Row t sz cs base w' v' (xs ++ [y]) ∧ ∀ g, v'.ownBlock = some g → v.ownBlock = some g ∨ w.heap.size ≤ g := by
    intro v' w' h1
    have h2 : OwnL t sz cs w.heap.size w' v' (xs ++ [y]) := by
      show w'.ownsRow _ t sz v' (xs ++ [y]).length ((xs ++ [y]).flatMap cs)
      rw [List.length_append, List.flatMap_append]; simpa using h1
    exact ⟨Row.of_own (h2.mono hbase), fun g e => .inr (h2.at g e)⟩
  rcases id hown with ⟨rfl, rfl⟩ | ⟨g, off, cap, cur, rfl, g2, g3, g4, g5, g6, g7⟩
  · refine wpList_append_grows w hgd s x sl ho t i0 z sz by_ hund hi hz0 hz1 hz2 hz hsz none 0 0 [] hs (fun _ => ⟨rfl, rfl⟩) (by simp) (fun b hb => by cases hb) ad 1 c (cs y) hx (by rw [hcs]; omega) hnews (h1c y) (by omega) (by unfold maxLen; omega) (by simpa using hb2) ?_
    intro v' w' h1 h2
    obtain ⟨k1, k2⟩ := grown v' w' (by simpa using h1)
    exact h v' w' k1 h2 k2
  · refine wpList_append_arg w hgd s x sl ho t i0 z sz by_ hund hi hz0 hz1 hz2 hz hsz g off xs.length cap (xs.flatMap cs) hs (flat_size hcs xs) (fun j u hj => by rw [g3.cellAt]; exact g7 j u hj) ad 1 c (cs y) hx (by rw [hcs]; omega) hnews (h1c y) ?_ (by unfold maxLen; omega) hb2 ?_ ?_
    · intro hr j hj
      rw [hcs] at hj
      have hfit : off + xs.length * sz + j < cur.size := by
        have : (xs.length + 1) * sz ≤ cap * sz := Nat.mul_le_mul_right _ hr
        rw [Nat.succ_mul] at this; omega
      refine ⟨?_, g3.free _⟩
      rw [g3.cellAt, Array.getElem?_eq_getElem hfit]; rfl
    · intro hr
      have hfit : off + xs.length * sz + (cs y).length ≤ cur.size := by
        have : (xs.length + 1) * sz ≤ cap * sz := Nat.mul_le_mul_right _ hr
        rw [Nat.succ_mul] at this; rw [hcs]; omega
      refine h _ _ ?_ ?_ (fun g' e => .inl e)
      · refine .inr ⟨g, off, cap, setL cur (off + xs.length * sz) (cs y), by simp, g2, g3.setCells (cs y), by simpa using hr, g5, by rw [setL_size]; exact g6, fun j u hu => ?_⟩
        rw [List.flatMap_append] at hu
        simp only [List.flatMap_cons, List.flatMap_nil, List.append_nil] at hu
        by_cases hj : j < xs.length * sz
        · rw [List.getElem?_append_left (by rw [flat_size hcs]; exact hj)] at hu
          rw [setL_out _ _ _ _ (.inl (by omega))]
          exact g7 j u hu
        · rw [List.getElem?_append_right (by rw [flat_size hcs]; omega), flat_size hcs] at hu
          rw [show off + j = off + xs.length * sz + (j - xs.length * sz) by omega]
          exact setL_in _ _ _ _ _ hfit hu
      · exact grown_setCells g (cs y) w _
    · intro hr v' w' h1 h2
      obtain ⟨k1, k2⟩ := grown v' w' h1
      exact h v' w' k1 ⟨h2.os, h2.tape, h2.output, h2.size, fun i hi _ => h2.block i hi (by simp)⟩ k2
end Go.Proofs.YtbfhcbihgleddaaGreatDoor
/-
  A vault as it lies, and its store.
-/
namespace Go.Proofs.YtbfhcbihgleddaaGreatDoor
open Go.RowKit

def scs (s : ByteArray) : List Value := [.string s]
theorem Row.rowed {α β : Type} {t sz t2 sz2 : Nat} {cs : α → List Value} {cs2 : β → List Value} {base base2 : Nat} {w w' : World} {v v2 : Value} {xs : List α} {ys : List β} (h : Row t sz cs base w v xs) (ht : t ≠ t2) (h2 : Row t2 sz2 cs2 base2 w v2 ys) (hg : w.grownBy w' v2.ownBlock) : Row t sz cs base w' v xs :=
  h.back fun g e => by
    obtain ⟨cur, hc⟩ := h.has g e
    refine hg.block g hc.lt fun e2 => ?_
    obtain ⟨cur2, hc2⟩ := h2.has g e2.symm
    unfold BoxT at hc hc2
    rw [hc] at hc2
    simp at hc2
    exact ht hc2.2
/-- A vault as it lies: box V, on the disk k, with the snapshots th, and the waste ws. -/
structure VAt (w0 w : World) (V k b n : Nat) (p : Pd) (keep : Int) (vt vw : Value) (th : List SpV) (ws : List ByteArray) : Prop where
  st : St w0 w k b n p
  box : BoxT 81 w V #[.pointer (some ⟨k, 0, none⟩), .int .i64 keep, vt, vw]
  tr : Row 84 4 SpV.cs w0.heap.size w vt th
  wr : Row 9 1 scs w0.heap.size w vw ws
  oks : ∀ x ∈ th, x.ok w0.heap.size w
  far : ∀ x ∈ th, ∀ g, vw.ownBlock = some g → x.vp.ownBlock ≠ some g
  lV : w0.heap.size ≤ V
/-- What a call on a vault turns: the disk, the box, and the row of the waste. -/
structure VT (V k b : Nat) (vw vw' : Value) (w w' : World) : Prop where
  os : w'.os = w.os
  tape : w'.tape = w.tape
  output : w'.output = w.output
  size : w.heap.size ≤ w'.heap.size
  block : ∀ i, i < w.heap.size → i ≠ k → i ≠ b → i ≠ V → vw.ownBlock ≠ some i → w'.heap[i]? = w.heap[i]?
  own : ∀ g, vw'.ownBlock = some g → vw.ownBlock = some g ∨ w.heap.size ≤ g
theorem VT.refl (V k b : Nat) (vw : Value) (w : World) : VT V k b vw vw w w := ⟨rfl, rfl, rfl, Nat.le_refl _, fun _ _ _ _ _ _ => rfl, fun _ e => .inl e⟩
theorem VT.trans {V k b : Nat} {va vb vc : Value} {w1 w2 w3 : World} (h : VT V k b va vb w1 w2) (g : VT V k b vb vc w2 w3) : VT V k b va vc w1 w3 :=
  ⟨g.os.trans h.os, g.tape.trans h.tape, g.output.trans h.output, Nat.le_trans h.size g.size,
   fun i hi h1 h2 h3 h4 => (g.block i (Nat.lt_of_lt_of_le hi h.size) h1 h2 h3 (fun e => by rcases h.own i e with e | e; exact h4 e; omega)).trans (h.block i hi h1 h2 h3 h4),
   fun x e => by
     rcases g.own x e with e | e
     · exact h.own x e
     · exact .inr (Nat.le_trans h.size e)⟩
theorem VT.below {V k b : Nat} {vw : Value} {w w' : World} (hb : Below w.heap.size w w') : VT V k b vw vw w w' := ⟨hb.os, hb.tape, hb.output, hb.size, fun i hi _ _ _ _ => hb.block i hi, fun _ e => .inl e⟩
theorem VT.turned {V k b : Nat} {vw : Value} {w w' : World} (ht : Turned k b w w') : VT V k b vw vw w w' := ⟨ht.os, ht.tape, ht.output, ht.size, fun i hi h1 h2 _ _ => ht.block i hi h1 h2, fun _ e => .inl e⟩
/-- Rows of other things stay. -/
theorem row_kb {w0 w w' : World} {k b n : Nat} {p : Pd} (h : St w0 w k b n p) (ht : Turned k b w w') {t sz base m : Nat} {v : Value} {xs : List Value} (hr : w.ownsRow base t sz v m xs) (htt : 78 ≠ t) : w'.ownsRow base t sz v m xs :=
  row_back hr fun g e => by
    obtain ⟨cur, hc⟩ := row_has hr g e
    refine ht.block g (Array.getElem?_eq_some_iff.1 hc).1 ?_ ?_
    · rintro rfl
      have hb := h.d.at_.box
      unfold BoxT at hb
      rw [hb] at hc; simp at hc; exact htt hc.2
    · rintro rfl
      exact BoxT.notMap (show BoxT t w g cur from hc) h.d.at_.map rfl
theorem box_kb {w0 w w' : World} {k b n : Nat} {p : Pd} (h : St w0 w k b n p) (ht : Turned k b w w') {t j : Nat} {ca : Array Value} (hr : BoxT t w j ca) (htt : 78 ≠ t) : BoxT t w' j ca := by
  unfold BoxT
  rw [ht.block j hr.lt ?_ (BoxT.notMap hr h.d.at_.map)]
  · exact hr
  · rintro rfl
    have hb := h.d.at_.box
    unfold BoxT at hb hr
    rw [hb] at hr; simp at hr; exact htt hr.2
theorem Row.kb {w0 w w' : World} {k b n : Nat} {p : Pd} (h : St w0 w k b n p) (ht : Turned k b w w') {α : Type} {t sz base : Nat} {cs : α → List Value} {v : Value} {xs : List α} (hr : Row t sz cs base w v xs) (htt : 78 ≠ t) : Row t sz cs base w' v xs :=
  hr.back fun g e => by
    obtain ⟨cur, hc⟩ := hr.has g e
    have := box_kb h ht hc htt
    unfold BoxT at this hc
    rw [this, hc]
theorem SpV.ok.kb {w0 w w' : World} {k b n : Nat} {p : Pd} (h : St w0 w k b n p) (ht : Turned k b w w') {base : Nat} {x : SpV} (hr : x.ok base w) : x.ok base w' :=
  ⟨row_kb h ht hr.p (by decide), row_kb h ht hr.c (by decide), fun c hc => row_kb h ht (hr.ks c hc) (by decide)⟩
theorem SpV.ok.below {base : Nat} {w w' : World} {x : SpV} (h : x.ok base w) (hb : Below w.heap.size w w') : x.ok base w' := ⟨h.p.below hb, h.c.below hb, fun c hc => (h.ks c hc).below hb⟩
theorem VAt.below {w0 w w' : World} {V k b n : Nat} {p : Pd} {keep : Int} {vt vw : Value} {th : List SpV} {ws : List ByteArray} (h : VAt w0 w V k b n p keep vt vw th ws) (hb : Below w.heap.size w w') : VAt w0 w' V k b n p keep vt vw th ws :=
  ⟨h.st.below hb, h.box.kept (base := 0) (Kept.of_below hb) (by decide), h.tr.below hb, h.wr.below hb, fun x hx => (h.oks x hx).below hb, h.far, h.lV⟩
/-- Behind a call on the disk. -/
theorem VAt.disk {w0 w w' : World} {V k b n n' : Nat} {p p' : Pd} {keep : Int} {vt vw : Value} {th : List SpV} {ws : List ByteArray} (h : VAt w0 w V k b n p keep vt vw th ws) (ht : Turned k b w w') (h' : St w0 w' k b n' p') : VAt w0 w' V k b n' p' keep vt vw th ws :=
  ⟨h', box_kb h.st ht h.box (by decide), h.tr.kb h.st ht (by decide), h.wr.kb h.st ht (by decide), fun x hx => (h.oks x hx).kb h.st ht, h.far, h.lV⟩
theorem St.mono {w0 w : World} {k b n n' : Nat} {p : Pd} (h : St w0 w k b n p) (hn : n ≤ n') (h' : n' ≤ 1000000) : St w0 w k b n' p := ⟨h.d.mono hn h', h.s⟩
theorem VAt.mono {w0 w : World} {V k b n n' : Nat} {p : Pd} {keep : Int} {vt vw : Value} {th : List SpV} {ws : List ByteArray} (h : VAt w0 w V k b n p keep vt vw th ws) (hn : n ≤ n') (h' : n' ≤ 1000000) : VAt w0 w V k b n' p keep vt vw th ws := { h with st := h.st.mono hn h' }
theorem St.other' {w0 w w' : World} {k b n g : Nat} {p : Pd} (h : St w0 w k b n p) (ht : Turned g g w w') (h1 : k ≠ g) (h2 : b ≠ g) (hg : w0.heap.size ≤ g) : St w0 w' k b n p :=
  ⟨⟨h.d.at_.other ht h1 h1 h2 h2, h.d.ok⟩, ⟨h.s.lk, h.s.lb, ⟨ht.os.trans h.s.below.os, ht.tape.trans h.s.below.tape, ht.output.trans h.s.below.output, Nat.le_trans h.s.below.size ht.size, fun i hi => (ht.block i (Nat.lt_of_lt_of_le hi h.s.below.size) (by omega) (by omega)).trans (h.s.below.block i hi)⟩⟩⟩
theorem St.rowed {w0 w w' : World} {k b n : Nat} {p : Pd} (h : St w0 w k b n p) {α : Type} {t sz : Nat} {cs : α → List Value} {v : Value} {xs : List α} (hr : Row t sz cs w0.heap.size w v xs) (htt : 78 ≠ t) (hg : w.grownBy w' v.ownBlock) : St w0 w' k b n p := by
  cases e : v.ownBlock with
  | none =>
    rw [e] at hg
    exact h.below ⟨hg.os, hg.tape, hg.output, hg.size, fun i hi => hg.block i hi (by simp)⟩
  | some g =>
    rw [e] at hg
    obtain ⟨cur, hc⟩ := hr.has g e
    refine h.other' (g := g) ⟨hg.os, hg.tape, hg.output, hg.size, fun i hi h1 _ => hg.block i hi (by simpa using h1)⟩ ?_ (BoxT.notMap hc h.d.at_.map).symm (hr.at g e)
    rintro rfl
    have hb := h.d.at_.box
    unfold BoxT at hb hc
    rw [hb] at hc; simp at hc; exact htt hc.2
theorem turned_set (w : World) (g j : Nat) (u : Value) : Turned g g w (w.setCell ⟨g, j, none⟩ u) := Turned.set g g w j u
theorem St.boxed {w0 w : World} {k b n V t : Nat} {p : Pd} {ca : Array Value} (h : St w0 w k b n p) (hV : BoxT t w V ca) (ht : 78 ≠ t) (lV : w0.heap.size ≤ V) (j : Nat) (u : Value) : St w0 (w.setCell ⟨V, j, none⟩ u) k b n p := by
  refine h.other' (turned_set w V j u) ?_ (BoxT.notMap hV h.d.at_.map).symm lV
  rintro rfl
  have hb := h.d.at_.box
  unfold BoxT at hb hV
  rw [hb] at hV; simp at hV; exact ht hV.2
theorem Row.setBox {α : Type} {t sz base b k : Nat} {cs : α → List Value} {w : World} {v : Value} {xs : List α} {ca : Array Value} (h : Row t sz cs base w v xs) (hb : BoxT b w k ca) (ht : b ≠ t) (j : Nat) (u : Value) : Row t sz cs base (w.setCell ⟨k, j, none⟩ u) v xs :=
  h.back fun g e => by
    obtain ⟨cur, hc⟩ := h.has g e
    refine Below.heap_setCell w ⟨k, j, none⟩ u g ?_
    show g ≠ k
    rintro rfl
    unfold BoxT at hb hc
    rw [hb] at hc
    simp at hc
    exact ht hc.2
theorem SpV.ok.setBox {base b k : Nat} {w : World} {x : SpV} {ca : Array Value} (h : x.ok base w) (hb : BoxT b w k ca) (h9 : b ≠ 9) (h22 : b ≠ 22) (h5 : b ≠ 5) (j : Nat) (u : Value) : x.ok base (w.setCell ⟨k, j, none⟩ u) :=
  ⟨row_setBox h.p hb h9 _ _, row_setBox h.c hb h22 _ _, fun c hc => row_setBox (h.ks c hc) hb h5 _ _⟩
/-- The waste is another row, or the same one with other things. -/
theorem VAt.setWaste {w0 w w' : World} {V k b n : Nat} {p : Pd} {keep : Int} {vt vw vw' : Value} {th : List SpV} {ws ws' : List ByteArray} (h : VAt w0 w V k b n p keep vt vw th ws) (hr : Row 9 1 scs w0.heap.size w' vw' ws') (hg : w.grownBy w' vw.ownBlock) (hown : ∀ g, vw'.ownBlock = some g → vw.ownBlock = some g ∨ w.heap.size ≤ g) :
    VAt w0 (w'.setCell ⟨V, 3, none⟩ vw') V k b n p keep vt vw' th ws' ∧ VT V k b vw vw' w (w'.setCell ⟨V, 3, none⟩ vw') := by
  have hw : ∀ {t sz base m : Nat} {v : Value} {xs : List Value}, t ≠ 9 → w.ownsRow base t sz v m xs → w'.ownsRow base t sz v m xs := fun ht hh => row_back hh fun g e => by
    obtain ⟨cur, hc⟩ := row_has hh g e
    refine hg.block g (Array.getElem?_eq_some_iff.1 hc).1 fun e2 => ?_
    obtain ⟨cur2, hc2⟩ := h.wr.has g e2.symm
    unfold BoxT at hc2
    rw [hc] at hc2
    simp at hc2
    exact ht hc2.2
  have hbox : BoxT 81 w' V #[.pointer (some ⟨k, 0, none⟩), .int .i64 keep, vt, vw] := by
    have hb := h.box
    unfold BoxT at hb ⊢
    rw [hg.block V (Array.getElem?_eq_some_iff.1 hb).1 fun e2 => ?_]
    · exact hb
    · obtain ⟨cur2, hc2⟩ := h.wr.has V e2.symm
      unfold BoxT at hc2
      rw [hb] at hc2; simp at hc2
  have hok : ∀ x ∈ th, x.ok w0.heap.size w' := fun x hx => by
    refine ⟨row_back (h.oks x hx).p fun g e => ?_, hw (by decide) (h.oks x hx).c, fun c hc => hw (by decide) ((h.oks x hx).ks c hc)⟩
    obtain ⟨cur, hc⟩ := row_has (h.oks x hx).p g e
    exact hg.block g (Array.getElem?_eq_some_iff.1 hc).1 fun e2 => h.far x hx g e2.symm e
  refine ⟨⟨(h.st.rowed h.wr (by decide) hg).boxed hbox (by decide) h.lV _ _, hbox.set 3 vw', (h.tr.rowed (by decide) h.wr hg).setBox hbox (by decide) _ _, hr.setBox hbox (by decide) _ _, fun x hx => (hok x hx).setBox hbox (by decide) (by decide) (by decide) _ _, ?_, h.lV⟩, ?_⟩
  · intro x hx g e ex
    rcases hown g e with e | e
    · exact h.far x hx g e ex
    · obtain ⟨cur, hc⟩ := row_has (h.oks x hx).p g ex
      have := (Array.getElem?_eq_some_iff.1 hc).1
      omega
  · refine ⟨hg.os, hg.tape, hg.output, by have := hg.size; simpa using this, fun i hi _ _ h3 h4 => ?_, hown⟩
    rw [Below.heap_setCell w' ⟨V, 3, none⟩ vw' i h3]
    exact hg.block i hi (fun e => h4 e.symm)
/-- What store does: the disk behind it, its answer, whether the name is waste now. -/
def pStore (p : Pd) (s : ByteArray) (l : List Nat) : Pd × Int × Bool :=
  if (pWrite p (nm s) (sealed l)).2 = 0 then ((pSync (pWrite p (nm s) (sealed l)).1 (nm s)).1, (pSync (pWrite p (nm s) (sealed l)).1 (nm s)).2, true)
  else ((pWrite p (nm s) (sealed l)).1, (pWrite p (nm s) (sealed l)).2, false)
theorem Tryz.info9' : (Tryz.prog.info? 9).map (fun i => (i.zero, i.size, i.bytes)) = some (some (.string ByteArray.empty), 1, 16) := by kernel_rfl

set_option maxHeartbeats 2000000 in
set_option maxRecDepth 100000 in
theorem store_any {w0 w : World} {V k b n : Nat} {p : Pd} {keep : Int} {vt vw : Value} {th : List SpV} {ws : List ByteArray} (h : VAt w0 w V k b n p keep vt vw th ws) (hg : Glob w0) (hn : n + 2 ≤ 1000000) (hws : ws.length ≤ 1000000)
    (s : ByteArray) (hs : s.size ≤ maxLen) (vb : Value) (l : List Nat) (hsg : Seg w vb l) (hl : Byts l) (hll : l.length ≤ 100000000) (p' : Pd) (er : Int) (aw : Bool) (hp : pStore p s l = (p', er, aw)) :
    Calls Tryz.prog 68 #[.pointer (some ⟨V, 0, none⟩), .string s, vb] w fun e w' => e = .returned (.int .i64 er) ∧ ∃ vw', VAt w0 w' V k b (n + 2) p' keep vt vw' th (if aw then ws ++ [s] else ws) ∧ VT V k b vw vw' w w' := by
  have HV := hide h
  obtain ⟨c0, c1, c2, c3⟩ := h.box.cells4
  have hgw : Glob w := hg.below h.st.since hg.1
  have hse := Seal_any vb l w.drew hsg hl hgw (by omega)
  obtain ⟨p1, e1, hp1⟩ : ∃ p1 e1, pWrite p (nm s) (sealed l) = (p1, e1) := ⟨_, _, rfl⟩
  obtain ⟨ab, cb, rfl, _, _, _, _⟩ := id hsg
  have HL := hide (sealed_byts' l hl)
  unfold pStore at hp
  rw [hp1] at hp
  have HP := hide hp
  clear h hgw hg hp hsg hl
  go_enter Tryz.func68, Tryz.ntmps68
  go_wp2_with fail
  go_region_held3 (fun w' => w'.cell? ⟨V, 0, none⟩ = some (.pointer (some ⟨k, 0, none⟩))) (first | go_keep | exact x0 | exact y0 | exact c0)
    (first | (go_at_call 66; refine hse.mono ?_; rintro e w1 ⟨v1, rfl, o1, b1⟩; have HV1 := hide ((HV.out.below ((Below.refl _ _).drew)).below b1); have HO1 := hide (o1.seg (by rw [sealed_len]; omega)); obtain ⟨y0, -, -, -⟩ := HV1.out.box.cells4; have hsz1 := b1.size; have B1 := hide b1; clear b1 o1)
           | (go_at_call 30; refine (kWrite HV1.out.st (by omega) s hs v1 (sealed l) HO1.out HL.out p1 e1 hp1).mono ?_; rintro e w2 ⟨rfl, h2, t2⟩; have HV2 := hide (HV1.out.disk t2 h2); have T2 := hide (VT.trans (VT.below (V := V) (k := k) (b := b) (vw := vw) (((Below.refl w.heap.size w).drew).trans B1.out)) (VT.turned t2)); obtain ⟨x0, x1, x2, x3⟩ := HV2.out.box.cells4; have xf := HV2.out.box.free; clear h2 t2))
  clear hse HV1 HO1 c0 c1 c2 c3 y0
  by_cases he1 : e1 = 0
  · subst he1
    have HP2 := HP
    rw [if_pos rfl] at HP2
    obtain ⟨p2, e2, hp2⟩ : ∃ p2 e2, pSync p1 (nm s) = (p2, e2) := ⟨_, _, rfl⟩
    rw [hp2] at HP2
    cases HP2.out
    obtain ⟨av, cv, hvw⟩ := HV2.out.wr.shape
    subst hvw
    have ba : Below w2.heap.size w2 (w2.alloc (.cells #[.string s] 9)) := (Below.refl _ _).alloc (Nat.le_refl _) _
    have HV3 := hide (HV2.out.below ba)
    have T3 := hide (VT.trans T2.out (VT.below (V := V) (k := k) (b := b) (vw := .slice av ws.length cv) ba))
    have hsz3 := HV3.out.st.since.size
    clear ba HV2 T2
    go_wp2_with (first | (at_builtin; refine app_row Tryz.info9' Tryz.underlying69 rfl (by decide) (by decide) (fun _ => rfl) (fun z u hu => by simp [scs] at hu; subst hu; rfl) rfl _ _ rfl w0.heap.size _ ws rfl HV3.out.wr ⟨w2.heap.size, 0, none⟩ 1 s rfl (fun j u hu => by match j, hu with | 0, hu => simp [scs] at hu; subst hu; simp [Addr.add]) hws hsz3 ?_) | fail)
    intro v4 w4 hr4 hg4 hat4
    obtain ⟨a4, c4, hv4⟩ := hr4.shape
    subst hv4
    have HV4 := hide (HV3.out.setWaste hr4 hg4 (fun g e => (hat4 g e).imp id (fun h => by simpa using h)))
    rw [show (ws ++ [s]).length = ws.length + 1 from by simp] at HV4
    have T4 := hide (VT.trans T3.out HV4.out.2)
    have hbx : BoxT 81 w4 V #[.pointer (some ⟨k, 0, none⟩), .int .i64 keep, vt, .slice av ws.length cv] := by
      have hb := HV3.out.box
      unfold BoxT at hb ⊢
      rw [hg4.block V (Array.getElem?_eq_some_iff.1 hb).1 fun e2 => ?_]
      · exact hb
      · obtain ⟨cur2, hc2⟩ := HV3.out.wr.has V e2.symm
        unfold BoxT at hc2
        rw [hb] at hc2; simp at hc2
    obtain ⟨q0, q1, q2, q3⟩ := hbx.cells4
    have qf := hbx.free
    clear hr4 hg4 hat4 HV3 T3 x0 x1 x2 x3 xf hbx
    go_wp2_with (first | (go_at_call 102; refine (kSync HV4.out.1.st (by omega) s hs p2 e2 hp2).mono ?_; rintro e w5 ⟨rfl, h5, t5⟩) | fail)
    go_ret
    exact ⟨rfl, _, (HV4.out.1.disk t5 h5), VT.trans T4.out (VT.turned t5)⟩
  · have HP2 := HP
    rw [if_neg he1] at HP2
    have he1' : (e1 == 0) = false := by simpa using he1
    cases HP2.out
    go_wp2
    go_ret
    exact ⟨rfl, vw, HV2.out.mono (by omega) hn, T2.out⟩
end Go.Proofs.YtbfhcbihgleddaaGreatDoor
/-
  The vault's partNames and a snapshot's manifest.
-/
namespace Go.Proofs.YtbfhcbihgleddaaGreatDoor
open Go.RowKit

/-- The names of chunks, from a place on. -/
def pnames (n : Nat) : Nat → List (List Nat) → List ByteArray
  | _, [] => []
  | i, l :: ls => partN n i (crc l) :: pnames n (i + 1) ls
theorem Row.read1 {α : Type} {t : Nat} {cs : α → List Value} {base : Nat} {w : World} {v : Value} {xs : List α} (h : Row t 1 cs base w v xs) (hcs : ∀ x, (cs x).length = 1) {i : Nat} {x : α} {u : Value} (hx : xs[i]? = some x) (hu : (cs x)[0]? = some u) : ∃ g off cap, v = .slice (some ⟨g, off, none⟩) xs.length cap ∧ w.cell? ⟨g, off + i, none⟩ = some u := by
  obtain ⟨g, off, cap, h1, h2⟩ := h.read hcs hx
  refine ⟨g, off, cap, h1, ?_⟩
  have := h2 0 u hu
  simpa using this

set_option maxHeartbeats 1000000 in
set_option maxRecDepth 100000 in
theorem partNames_any {base : Nat} (n : Nat) (hn : n < 18446744073709551616) (v : Value) (cks : List Ck) (w : World) (ho : OwnL 22 1 Ck.cs base w v cks) (hk : ∀ x ∈ cks, x.ok base w) (hb : ∀ x ∈ cks, Byts x.l ∧ x.l.length ≤ 10000000) (hl : cks.length ≤ 1000000) (hg : Glob w) :
    Calls Tryz.prog 39 #[.int .u64 n, v] w fun e w' => ∃ v', e = .returned v' ∧ OwnS w.heap.size w' v' (pnames n 0 (cks.map Ck.l)) ∧ Below w.heap.size w w' := by
  obtain ⟨ac, cc, rfl⟩ := ho.shape
  have HO := hide (Row.of_own ho)
  have HK := hide hk
  have HB := hide hb
  have HG := hide hg
  generalize hr : pnames n 0 (cks.map Ck.l) = r
  have HR : Hid (r = [] ++ pnames n 0 ((cks.drop 0).map Ck.l)) := by show _ = _; rw [List.drop_zero, List.nil_append, hr]
  clear ho hk hb hg hr
  go_enter Tryz.func39, Tryz.ntmps39
  go_wp2
  go_loopw [5, 10] (fun v5 iv wr => ∃ (i : Nat) (acc : List ByteArray), i ≤ cks.length ∧ iv = .int .i64 i ∧ Hid (acc.length = i) ∧ Hid (OwnS w.heap.size wr v5 acc) ∧ Hid (Below w.heap.size w wr) ∧ Hid (r = acc ++ pnames n i ((cks.drop i).map Ck.l))) (fun _ iv _ => cks.length - (intOf iv).toNat)
  case atStart => exact ⟨0, [], Nat.zero_le _, rfl, rfl, OwnS.nil _ _, Below.refl _ _, HR⟩
  case round =>
    obtain ⟨i, acc, hi, rfl, HL, HS, HW, HE⟩ := hrel
    clear HR
    obtain ⟨a5, c5, hv5⟩ := HS.out.shape
    subst hv5
    by_cases hlt : i < cks.length
    · obtain ⟨x, hx⟩ : ∃ x, cks[i]? = some x := ⟨_, List.getElem?_eq_getElem hlt⟩
      have hmem := List.mem_of_getElem? hx
      obtain ⟨g, off, cap, e, hc⟩ := (HO.out.below HW.out).read1 (fun _ => rfl) hx rfl
      cases e
      obtain ⟨xl, xa, xc⟩ := x
      simp only [Ck.v] at hc
      obtain ⟨hby, hxl⟩ := HB.out _ hmem
      have hok : Own base wr (.slice xa xl.length xc) xl := Own.below (HK.out _ hmem) HW.out (Nat.le_refl _)
      simp only at hby hxl
      have hpn := partName_any n i hn (by omega) (.slice xa xl.length xc) xl wr (hok.seg (by omega)) hby (HG.out.below HW.out HG.out.1)
      have HEN : Hid (r = (acc ++ [partN n i (crc xl)]) ++ pnames n (i + 1) ((cks.drop (i + 1)).map Ck.l)) := by
        show _ = _
        rw [HE.out, List.drop_eq_getElem_cons hlt, show cks[i] = ⟨xl, xa, xc⟩ from by rw [List.getElem?_eq_getElem hlt] at hx; exact Option.some.inj hx, List.map_cons, pnames]
        simp
      clear hx hmem hok HE
      go_wp2_with fail
      refine hpn.mono ?_
      rintro e w2 ⟨rfl, b2⟩
      have ba : Below wr.heap.size wr (w2.alloc (.cells #[.string (partN n i (crc xl))] 9)) := b2.alloc b2.size _
      have HS2 := hide (HS.out.below ba)
      have HW2 := hide (HW.out.trans (ba.mono HW.out.size))
      have hla : acc.length ≤ 1000000 := by have := HL.out; omega
      have hsz2 := HW2.out.size
      clear hpn b2 ba hc
      go_wp2_with (first | (at_builtin; refine app_ownS rfl _ _ rfl w.heap.size _ acc rfl HS2.out ⟨w2.heap.size, 0, none⟩ 1 (partN n i (crc xl)) rfl (by simp [Addr.add]) hla hsz2 ?_) | fail)
      intro v3 w3 ho3 hg3
      have HS3 := hide ho3
      have HW3 : Hid (Below w.heap.size w w3) := ⟨hg3.os.trans HW2.out.os, hg3.tape.trans HW2.out.tape, hg3.output.trans HW2.out.output, Nat.le_trans HW2.out.size hg3.size, fun j hj => (hg3.block j (by omega) (fun e => by have := (World.ownsRow.lt HS2.out j e.symm).1; omega)).trans (HW2.out.block j hj)⟩
      clear ho3 hg3 HS2 HW2
      go_wp2
      go_roundw
      case rel => exact ⟨i + 1, _, by omega, by go_num, (by show _ = _; rw [List.length_append, HL.out]; rfl), HS3, HW3, HEN⟩
      case measure => simp [intOf]; omega
    · obtain rfl : i = cks.length := by omega
      have HRS : Hid (r = acc) := by show _ = _; rw [HE.out, List.drop_length]; simp [pnames]
      go_wp2
      go_ret
      rw [HRS.out]
      exact ⟨_, rfl, HS.out, HW.out⟩
set_option maxHeartbeats 1000000 in
set_option maxRecDepth 100000 in
theorem manifest_any {base : Nat} (x : SpV) (w : World) (ho : OwnS base w x.vp x.parts) (hl : x.parts.length ≤ 1000000) (hs : ∀ s ∈ x.parts, s.size ≤ 1000000) (hn : x.n < 18446744073709551616) (he : x.ep < 18446744073709551616) :
    Calls Tryz.prog 67 #[.agg #[.int .u64 x.n, .int .u64 x.ep, x.vp, x.vc]] w (WPost w (mEr x.parts) (mOut x.n x.ep x.parts)) := by
  obtain ⟨n, ep, parts, ap, cp, ck, ac, cc⟩ := x
  simp only [SpV.vp, SpV.vc] at *
  have ba : Below w.heap.size w (w.alloc (.cells #[.int .u64 n, .int .u64 ep, .slice ap parts.length cp, .slice ac ck.length cc] 84)) := (Below.refl _ _).alloc (Nat.le_refl _) _
  have hm := Manifest_any n ep (.slice ap parts.length cp) parts (w.alloc (.cells #[.int .u64 n, .int .u64 ep, .slice ap parts.length cp, .slice ac ck.length cc] 84)) (by omega) (by omega) (fun s hss => by have := hs s hss; omega) ((ho.below ba).sseg (by omega) (Nat.le_refl _))
  have BA := hide ba
  clear ba ho hs
  generalize mEr parts = er at *
  generalize mOut n ep parts = out at *
  go_enter Tryz.func67, Tryz.ntmps67
  go_wp2_with fail
  refine hm.mono ?_
  rintro e w1 ⟨v1, rfl, o1, b1⟩
  obtain ⟨a1, c1, hv1⟩ := own_form o1
  subst hv1
  clear hm
  go_wp2
  go_ret2
  exact ⟨_, rfl, o1.mono BA.out.size, BA.out.trans (b1.mono BA.out.size)⟩
end Go.Proofs.YtbfhcbihgleddaaGreatDoor
/-
  The vault's lay: all files of a snapshot.
-/
namespace Go.Proofs.YtbfhcbihgleddaaGreatDoor
open Go.RowKit

theorem VAt.keeps {w0 w w' : World} {V k b n : Nat} {p : Pd} {keep : Int} {vt vw vw' : Value} {th : List SpV} {ws : List ByteArray} (h : VAt w0 w V k b n p keep vt vw th ws) (ht : VT V k b vw vw' w w') {t g : Nat} {cur : Array Value} (hb : BoxT t w g cur) (h78 : 78 ≠ t) (h81 : 81 ≠ t) (h9 : t ≠ 9 ∨ vw.ownBlock ≠ some g) : BoxT t w' g cur := by
  unfold BoxT at hb ⊢
  rw [ht.block g (Array.getElem?_eq_some_iff.1 hb).1 ?_ (BoxT.notMap hb h.st.d.at_.map) ?_ ?_]
  · exact hb
  · rintro rfl
    have hk := h.st.d.at_.box
    unfold BoxT at hk
    rw [hk] at hb; simp at hb; exact h78 hb.2
  · rintro rfl
    have hk := h.box
    unfold BoxT at hk
    rw [hk] at hb; simp at hb; exact h81 hb.2
  · intro e
    rcases h9 with h9 | h9
    · obtain ⟨cur2, hc2⟩ := h.wr.has g e
      unfold BoxT at hc2
      rw [hb] at hc2; simp at hc2; exact h9 hc2.2
    · exact h9 e
theorem VAt.keepsRow {w0 w w' : World} {V k b n : Nat} {p : Pd} {keep : Int} {vt vw vw' : Value} {th : List SpV} {ws : List ByteArray} (h : VAt w0 w V k b n p keep vt vw th ws) (ht : VT V k b vw vw' w w') {t sz base m : Nat} {v : Value} {xs : List Value} (hr : w.ownsRow base t sz v m xs) (h78 : 78 ≠ t) (h81 : 81 ≠ t) (h9 : t ≠ 9 ∨ ∀ g, vw.ownBlock = some g → v.ownBlock ≠ some g) : w'.ownsRow base t sz v m xs :=
  row_back hr fun g e => by
    obtain ⟨cur, hc⟩ := row_has hr g e
    have := h.keeps ht (show BoxT t w g cur from hc) h78 h81 (h9.imp id fun hh e2 => hh g e2 e)
    unfold BoxT at this
    rw [this, hc]
/-- A snapshot that is to be laid, as it lies: its own rows, away from the waste. -/
structure New (base : Nat) (w : World) (x : SpV) (vw : Value) : Prop where
  ok : x.ok base w
  far : ∀ g, vw.ownBlock = some g → x.vp.ownBlock ≠ some g
theorem New.below {base : Nat} {w w' : World} {x : SpV} {vw : Value} (h : New base w x vw) (hb : Below w.heap.size w w') : New base w' x vw := ⟨h.ok.below hb, h.far⟩
theorem New.keeps {w0 w w' : World} {V k b n : Nat} {p : Pd} {keep : Int} {vt vw vw' : Value} {th : List SpV} {ws : List ByteArray} (h : VAt w0 w V k b n p keep vt vw th ws) (ht : VT V k b vw vw' w w') {base : Nat} {x : SpV} (hx : New base w x vw) : New base w' x vw' := by
  refine ⟨⟨h.keepsRow ht hx.ok.p (by decide) (by decide) (.inr hx.far), h.keepsRow ht hx.ok.c (by decide) (by decide) (.inl (by decide)), fun c hc => h.keepsRow ht (hx.ok.ks c hc) (by decide) (by decide) (.inl (by decide))⟩, fun g e ex => ?_⟩
  rcases ht.own g e with e | e
  · exact hx.far g e ex
  · obtain ⟨cur, hc⟩ := row_has hx.ok.p g ex
    have := (Array.getElem?_eq_some_iff.1 hc).1
    omega
def pStores : Pd → List ByteArray → List ByteArray → List (List Nat) → Pd × Int × List ByteArray
  | p, ws, s :: ss, l :: ls => if (pStore p s l).2.1 = 0 then pStores (pStore p s l).1 (if (pStore p s l).2.2 then ws ++ [s] else ws) ss ls else ((pStore p s l).1, (pStore p s l).2.1, if (pStore p s l).2.2 then ws ++ [s] else ws)
  | p, ws, _, _ => (p, 0, ws)
/-- What lay does. -/
def pLay2 (x : Sp) (p : Pd) (ws : List ByteArray) : Pd × Int × List ByteArray :=
  if (pStore p (freshN x.n) (mOut x.n x.ep x.parts)).2.1 = 0 then
    ((pRename (pStore p (freshN x.n) (mOut x.n x.ep x.parts)).1 (nm (freshN x.n)) (nm (wholeN x.n))).1, (pRename (pStore p (freshN x.n) (mOut x.n x.ep x.parts)).1 (nm (freshN x.n)) (nm (wholeN x.n))).2, if (pStore p (freshN x.n) (mOut x.n x.ep x.parts)).2.2 then ws ++ [freshN x.n] else ws)
  else ((pStore p (freshN x.n) (mOut x.n x.ep x.parts)).1, (pStore p (freshN x.n) (mOut x.n x.ep x.parts)).2.1, if (pStore p (freshN x.n) (mOut x.n x.ep x.parts)).2.2 then ws ++ [freshN x.n] else ws)
def pLay (x : Sp) (p : Pd) (ws : List ByteArray) : Pd × Int × List ByteArray :=
  if mEr x.parts = 0 then
    (if (pStores p ws x.parts x.chunks).2.1 = 0 then pLay2 x (pStores p ws x.parts x.chunks).1 (pStores p ws x.parts x.chunks).2.2 else pStores p ws x.parts x.chunks)
  else (p, mEr x.parts, ws)
/-- In the midst of lay. -/
structure LI (w0 w wr : World) (V k b : Nat) (keep : Int) (vt vw : Value) (th : List SpV) (x : SpV) (kB : Nat) (am : Option Addr) (cm : Nat) (mb : List Nat) (n1 : Nat) (p1 : Pd) (vw1 : Value) (ws1 : List ByteArray) : Prop where
  v : VAt w0 wr V k b n1 p1 keep vt vw1 th ws1
  t : VT V k b vw vw1 w wr
  nw : New w0.heap.size wr x vw1
  m : Own w0.heap.size wr (.slice am mb.length cm) mb
  bx : BoxT 84 wr kB #[.int .u64 x.n, .int .u64 x.ep, x.vp, x.vc]
theorem LI.step {w0 w wr w' : World} {V k b : Nat} {keep : Int} {vt vw : Value} {th : List SpV} {x : SpV} {kB : Nat} {am : Option Addr} {cm : Nat} {mb : List Nat} {n1 n2 : Nat} {p1 p2 : Pd} {vw1 vw2 : Value} {ws1 ws2 : List ByteArray} (h : LI w0 w wr V k b keep vt vw th x kB am cm mb n1 p1 vw1 ws1) (hv : VAt w0 w' V k b n2 p2 keep vt vw2 th ws2) (ht : VT V k b vw1 vw2 wr w') : LI w0 w w' V k b keep vt vw th x kB am cm mb n2 p2 vw2 ws2 :=
  ⟨hv, h.t.trans ht, h.nw.keeps h.v ht, h.v.keepsRow ht h.m (by decide) (by decide) (.inl (by decide)), h.v.keeps ht h.bx (by decide) (by decide) (.inl (by decide))⟩
theorem LI.below {w0 w wr w' : World} {V k b : Nat} {keep : Int} {vt vw : Value} {th : List SpV} {x : SpV} {kB : Nat} {am : Option Addr} {cm : Nat} {mb : List Nat} {n1 : Nat} {p1 : Pd} {vw1 : Value} {ws1 : List ByteArray} (h : LI w0 w wr V k b keep vt vw th x kB am cm mb n1 p1 vw1 ws1) (hb : Below wr.heap.size wr w') : LI w0 w w' V k b keep vt vw th x kB am cm mb n1 p1 vw1 ws1 :=
  h.step (h.v.below hb) (VT.below hb)
theorem freshN_size {n : Nat} (h : n < 18446744073709551616) : (freshN n).size ≤ 17 := by
  have := n36_size h
  unfold freshN
  rw [size_append]
  show 4 + _ ≤ _
  omega
theorem wholeN_size {n : Nat} (h : n < 18446744073709551616) : (wholeN n).size ≤ 19 := by
  have := n36_size h
  unfold wholeN
  rw [size_append]
  show 6 + _ ≤ _
  omega
theorem nsum_le (ss : List ByteArray) (h : ∀ s ∈ ss, s.size ≤ 100) : nsum ss ≤ 101 * ss.length := by
  induction ss with
  | nil => simp [nsum]
  | cons s ss ih =>
    have h1 := ih fun z hz => h z (by simp [hz])
    have h2 := h s (by simp)
    simp only [nsum, List.length_cons, List.map_cons, List.sum_cons] at *
    omega
theorem mOut_byts (n ep : Nat) (ss : List ByteArray) : Byts (mOut n ep ss) := by
  unfold mOut
  split
  case isTrue h => exact manb_byts _ _ _ h
  case isFalse => exact Byts.nil

set_option maxHeartbeats 4000000 in
set_option maxRecDepth 100000 in
theorem lay_any {w0 w : World} {V k b n : Nat} {p : Pd} {keep : Int} {vt vw : Value} {th : List SpV} {ws : List ByteArray} (h : VAt w0 w V k b n p keep vt vw th ws) (hg : Glob w0) (x : SpV) (hx : New w0.heap.size w x vw)
    (hlen : x.parts.length = x.ck.length) (hck : x.ck.length ≤ 1000) (hn : n + 3000 ≤ 1000000) (hws : ws.length ≤ 100000) (hxn : x.n < 18446744073709551616) (hxe : x.ep < 18446744073709551616) (hps : ∀ s ∈ x.parts, s.size ≤ 100) (hcs : ∀ c ∈ x.ck, Byts c.l ∧ c.l.length ≤ 10000000)
    (p' : Pd) (er : Int) (ws' : List ByteArray) (hp : pLay x.s p ws = (p', er, ws')) :
    Calls Tryz.prog 40 #[.pointer (some ⟨V, 0, none⟩), .agg #[.int .u64 x.n, .int .u64 x.ep, x.vp, x.vc]] w fun e w' => e = .returned (.int .i64 er) ∧ ∃ vw', VAt w0 w' V k b (n + 3000) p' keep vt vw' th ws' ∧ VT V k b vw vw' w w' := by
  obtain ⟨xn, xep, xp, xap, xcp, xck, xac, xcc⟩ := x
  simp only at hlen hck hxn hxe hps hcs
  have ba : Below w.heap.size w (w.alloc (.cells #[.int .u64 xn, .int .u64 xep, .slice xap xp.length xcp, .slice xac xck.length xcc] 84)) := (Below.refl _ _).alloc (Nat.le_refl _) _
  have hm : Calls Tryz.prog 67 #[.agg #[.int .u64 xn, .int .u64 xep, .slice xap xp.length xcp, .slice xac xck.length xcc]] (w.alloc (.cells #[.int .u64 xn, .int .u64 xep, .slice xap xp.length xcp, .slice xac xck.length xcc] 84)) (WPost (w.alloc (.cells #[.int .u64 xn, .int .u64 xep, .slice xap xp.length xcp, .slice xac xck.length xcc] 84)) (mEr xp) (mOut xn xep xp)) := manifest_any (⟨xn, xep, xp, xap, xcp, xck, xac, xcc⟩ : SpV) _ (hx.below ba).ok.p (show xp.length ≤ _ by omega) (fun s hs => by have := hps s hs; omega) hxn hxe
  have HV := hide h
  have HX := hide hx
  have HG := hide hg
  have HCS := hide hcs
  have HPS := hide hps
  have HP := hide hp
  have BA := hide ba
  have hml : (mOut xn xep xp).length ≤ 1000000 := by
    have h1 := mOut_len xn xep xp
    have h2 := nsum_le xp hps
    omega
  have HMB := hide (mOut_byts xn xep xp)
  have HBX : Hid (BoxT 84 (w.alloc (.cells #[.int .u64 xn, .int .u64 xep, .slice xap xp.length xcp, .slice xac xck.length xcc] 84)) w.heap.size #[.int .u64 xn, .int .u64 xep, .slice xap xp.length xcp, .slice xac xck.length xcc]) := BoxT.new _ _ _
  show Calls Tryz.prog 40 #[.pointer (some ⟨V, 0, none⟩), .agg #[.int .u64 xn, .int .u64 xep, .slice xap xp.length xcp, .slice xac xck.length xcc]] w _
  have HLEN := hide hlen
  have hck' : xp.length ≤ 1000 := by omega
  clear h hx hg hcs hps hp ba hlen
  go_enter Tryz.func40, Tryz.ntmps40
  go_wp2_with fail
  refine hm.mono ?_
  rintro e w1 ⟨vm, rfl, om, b1⟩
  obtain ⟨am, cm, hvm⟩ := own_form om
  subst hvm
  have HI1 : Hid (LI w0 w w1 V k b keep vt vw th (⟨xn, xep, xp, xap, xcp, xck, xac, xcc⟩ : SpV) w.heap.size am cm (mOut xn xep xp) n p vw ws) := by
    have hb := BA.out.trans (b1.mono BA.out.size)
    exact ⟨HV.out.below hb, VT.below hb, HX.out.below hb, om.mono (Nat.le_trans HV.out.st.since.size BA.out.size), HBX.out.kept (base := 0) (Kept.of_below b1) (by decide)⟩
  clear hm om b1 HV HX HBX BA
  by_cases hme : mEr xp = 0
  · rw [hme]
    have HP2 : Hid ((if (pStores p ws xp (xck.map Ck.l)).2.1 = 0 then pLay2 (SpV.s (⟨xn, xep, xp, xap, xcp, xck, xac, xcc⟩ : SpV)) (pStores p ws xp (xck.map Ck.l)).1 (pStores p ws xp (xck.map Ck.l)).2.2 else pStores p ws xp (xck.map Ck.l)) = (p', er, ws')) := by
      have := HP.out
      unfold pLay at this
      rw [if_pos (show mEr (SpV.s (⟨xn, xep, xp, xap, xcp, xck, xac, xcc⟩ : SpV)).parts = 0 from hme)] at this
      exact this
    clear HP hme
    generalize hmb : mOut xn xep xp = mb at *
    have HMO := hide hmb
    clear hmb
    obtain ⟨c0, c1, c2, c3⟩ := HI1.out.bx.cells4
    simp only [SpV.vp, SpV.vc] at c2 c3
    go_wp2
    go_loopw [23] (fun iv wr => ∃ (i : Nat) (p1 : Pd) (vw1 : Value) (ws1 : List ByteArray), i ≤ xp.length ∧ iv = .int .i64 i ∧ Hid (LI w0 w wr V k b keep vt vw th (⟨xn, xep, xp, xap, xcp, xck, xac, xcc⟩ : SpV) w.heap.size am cm mb (n + 2 * i) p1 vw1 ws1) ∧ Hid (pStores p ws xp (xck.map Ck.l) = pStores p1 ws1 (xp.drop i) ((xck.drop i).map Ck.l)) ∧ Hid (ws1.length ≤ ws.length + i)) (fun iv _ => xp.length - (intOf iv).toNat)
    case atStart => exact ⟨0, p, vw, ws, Nat.zero_le _, rfl, HI1, rfl, Nat.le_refl _⟩
    case round =>
      obtain ⟨i, p1, vw1, ws1, hi, rfl, HI, HE, HL⟩ := hrel
      clear HI1 c0 c1 c2 c3
      obtain ⟨c0, c1, c2, c3⟩ := HI.out.bx.cells4
      simp only [SpV.vp, SpV.vc] at c2 c3
      by_cases hlt : i < xp.length
      · obtain ⟨s, hs⟩ : ∃ s, xp[i]? = some s := ⟨_, List.getElem?_eq_getElem hlt⟩
        have hltc : i < xck.length := by have := HLEN.out; omega
        obtain ⟨c, hc⟩ : ∃ c, xck[i]? = some c := ⟨_, List.getElem?_eq_getElem hltc⟩
        have hsm := HPS.out s (List.mem_of_getElem? hs)
        have hcm := HCS.out c (List.mem_of_getElem? hc)
        have hok := HI.out.nw.ok.ks c (List.mem_of_getElem? hc)
        have hssg : SSeg wr.heap.size wr (.slice xap xp.length xcp) xp := HI.out.nw.ok.p.sseg (show xp.length ≤ _ by omega) (Nat.le_refl _)
        obtain ⟨aq, cq, eq, -, hsg⟩ := hssg
        cases eq
        obtain ⟨gb, goff, rfl, hcell⟩ : ∃ b off, xap = some ⟨b, off, none⟩ ∧ wr.cell? ⟨b, off + i, none⟩ = some (.string s) := by
          rcases hsg with hsg | ⟨b', off', h5, h6, h7⟩
          · rw [hsg] at hlt; simp at hlt
          · exact ⟨b', off', h5, h7 i s hs⟩
        obtain ⟨gc, gcoff, capc, ec, hcc⟩ := (Row.of_own HI.out.nw.ok.c).read1 (fun _ => rfl) hc rfl
        simp only [SpV.vc] at ec
        cases ec
        clear hsg
        obtain ⟨cl, ca, ccp⟩ := c
        simp only [Ck.v] at hcc hcm
        obtain ⟨p2, e2, aw2, hp2⟩ : ∃ p2 e2 aw2, pStore p1 s cl = (p2, e2, aw2) := ⟨_, _, _, rfl⟩
        have hst := store_any HI.out.v HG.out (by omega) (by have := HL.out; omega) s (by unfold maxLen; omega) (.slice ca cl.length ccp) cl (Own.seg hok (show cl.length ≤ _ by omega)) hcm.1 (by omega) p2 e2 aw2 hp2
        have HEN : Hid (pStores p ws xp (xck.map Ck.l) = if e2 = 0 then pStores p2 (if aw2 then ws1 ++ [s] else ws1) (xp.drop (i + 1)) ((xck.drop (i + 1)).map Ck.l) else (p2, e2, if aw2 then ws1 ++ [s] else ws1)) := by
          show _ = _
          rw [HE.out, List.drop_eq_getElem_cons hlt, List.drop_eq_getElem_cons hltc, show xp[i] = s from by rw [List.getElem?_eq_getElem hlt] at hs; exact Option.some.inj hs, show xck[i] = ⟨cl, ca, ccp⟩ from by rw [List.getElem?_eq_getElem hltc] at hc; exact Option.some.inj hc, List.map_cons, pStores, hp2]
        clear hs hc hok HE
        go_wp2_with fail
        refine hst.mono ?_
        rintro e w2 ⟨rfl, vw2, hv2, t2⟩
        have HI2 := hide (HI.out.step hv2 t2)
        clear hst hv2 t2 HI c0 c1 c2 c3 hcell hcc
        by_cases he2 : e2 = 0
        · subst he2
          rw [if_pos rfl] at HEN
          go_wp2
          go_roundw
          case rel =>
            refine ⟨i + 1, p2, vw2, _, by omega, by go_num, ?_, HEN, ?_⟩
            · rw [show n + 2 * (i + 1) = n + 2 * i + 2 by omega]; exact HI2
            · show _ ≤ _
              have := HL.out
              cases aw2 <;> simp <;> omega
          case measure => simp [intOf]; omega
        · rw [if_neg he2] at HEN
          have hpe : (p2, e2, if aw2 then ws1 ++ [s] else ws1) = (p', er, ws') := by
            have := HP2.out
            rw [HEN.out, if_neg he2] at this
            exact this
          have HPE := hide hpe
          have he2' : (e2 == 0) = false := by simpa using he2
          clear hpe he2 HEN HP2
          go_wp2
          go_ret
          cases HPE.out
          exact ⟨rfl, vw2, HI2.out.v.mono (by omega) hn, HI2.out.t⟩
      · obtain rfl : i = xp.length := by omega
        have HP3 : Hid (pLay2 (SpV.s (⟨xn, xep, xp, xap, xcp, xck, xac, xcc⟩ : SpV)) p1 ws1 = (p', er, ws')) := by
          have h1 := HE.out
          rw [List.drop_length] at h1
          have h2 : pStores p1 ws1 [] ((xck.drop xp.length).map Ck.l) = (p1, 0, ws1) := by simp [pStores]
          rw [h2] at h1
          have := HP2.out
          rw [h1, if_pos rfl] at this
          exact this
        have hlw : ws1.length ≤ 200000 := by have := HL.out; omega
        have hfr := freshName_any xn hxn wr
        have hfs := freshN_size hxn
        have hwsz := wholeN_size hxn
        clear HE HP2 HL
        go_wp2_with fail
        refine hfr.mono ?_
        rintro e w2 ⟨rfl, b2⟩
        have HI2 := hide (HI.out.below b2)
        obtain ⟨p2, e2, aw2, hp2⟩ : ∃ p2 e2 aw2, pStore p1 (freshN xn) mb = (p2, e2, aw2) := ⟨_, _, _, rfl⟩
        have HP4 : Hid ((if e2 = 0 then ((pRename p2 (nm (freshN xn)) (nm (wholeN xn))).1, (pRename p2 (nm (freshN xn)) (nm (wholeN xn))).2, if aw2 then ws1 ++ [freshN xn] else ws1) else (p2, e2, if aw2 then ws1 ++ [freshN xn] else ws1)) = (p', er, ws')) := by
          have := HP3.out
          unfold pLay2 at this
          rw [show mOut (SpV.s (⟨xn, xep, xp, xap, xcp, xck, xac, xcc⟩ : SpV)).n (SpV.s (⟨xn, xep, xp, xap, xcp, xck, xac, xcc⟩ : SpV)).ep (SpV.s (⟨xn, xep, xp, xap, xcp, xck, xac, xcc⟩ : SpV)).parts = mb from HMO.out, show (SpV.s (⟨xn, xep, xp, xap, xcp, xck, xac, xcc⟩ : SpV)).n = xn from rfl, hp2] at this
          exact this
        have hst := store_any HI2.out.v HG.out (by omega) (by omega) (freshN xn) (by unfold maxLen; omega) (.slice am mb.length cm) mb (HI2.out.m.seg (by omega)) HMB.out (by omega) p2 e2 aw2 hp2
        clear hfr b2 HI c0 c1 c2 c3 HP3
        go_wp2_with fail
        refine hst.mono ?_
        rintro e w3 ⟨rfl, vw3, hv3, t3⟩
        have HI3 := hide (HI2.out.step hv3 t3)
        clear hst hv3 t3 HI2
        by_cases he2 : e2 = 0
        · subst he2
          rw [if_pos rfl] at HP4
          obtain ⟨p4, e4, hp4⟩ : ∃ p4 e4, pRename p2 (nm (freshN xn)) (nm (wholeN xn)) = (p4, e4) := ⟨_, _, rfl⟩
          rw [hp4] at HP4
          have HI4 := hide (HI3.out.below ((Below.refl _ _).drew))
          obtain ⟨v0, -, -, -⟩ := HI3.out.v.box.cells4
          obtain ⟨d0, -, -, -⟩ := HI3.out.bx.cells4
          obtain ⟨v0d, -, -, -⟩ := HI4.out.v.box.cells4
          obtain ⟨d0d, -, -, -⟩ := HI4.out.bx.cells4
          have hwn := wholeName_any xn hxn w3.drew
          go_wp2_with fail
          go_region_held3 (fun w' => w'.cell? ⟨V, 0, none⟩ = some (.pointer (some ⟨k, 0, none⟩)) ∧ w'.cell? ⟨w.heap.size, 0, none⟩ = some (.int .u64 xn)) (first | go_keep | exact ⟨y0, y1⟩ | exact ⟨z0, z1⟩)
            (first | (go_at_call 71; refine hwn.mono ?_; rintro e w5 ⟨rfl, b5⟩; have HI5 := hide (HI4.out.below b5); obtain ⟨z0, -, -, -⟩ := HI5.out.v.box.cells4; obtain ⟨z1, -, -, -⟩ := HI5.out.bx.cells4; clear b5)
                   | (go_at_call 70; refine (kRename HI5.out.v.st (by omega) (freshN xn) (wholeN xn) (by unfold maxLen; omega) (by unfold maxLen; omega) p4 e4 hp4).mono ?_; rintro e w6 ⟨rfl, h6, t6⟩; have HI6 := hide (HI5.out.step (HI5.out.v.disk t6 h6) (VT.turned t6)); obtain ⟨y0, -, -, -⟩ := HI6.out.v.box.cells4; obtain ⟨y1, -, -, -⟩ := HI6.out.bx.cells4; clear h6 t6))
          go_wp2
          go_ret
          cases HP4.out
          exact ⟨rfl, vw3, HI6.out.v.mono (by omega) hn, HI6.out.t⟩
        · rw [if_neg he2] at HP4
          have he2' : (e2 == 0) = false := by simpa using he2
          clear he2
          go_wp2
          go_ret
          cases HP4.out
          exact ⟨rfl, vw3, HI3.out.v.mono (by omega) hn, HI3.out.t⟩
  · have hpe : (p, mEr xp, ws) = (p', er, ws') := by
      have := HP.out
      unfold pLay at this
      rw [if_neg (show ¬ mEr (SpV.s (⟨xn, xep, xp, xap, xcp, xck, xac, xcc⟩ : SpV)).parts = 0 from hme)] at this
      exact this
    have HPE := hide hpe
    have hme' : (mEr xp == 0) = false := by simpa using hme
    clear hpe HP
    go_wp2
    go_ret
    cases HPE.out
    exact ⟨rfl, vw, HI1.out.v.mono (by omega) hn, HI1.out.t⟩
end Go.Proofs.YtbfhcbihgleddaaGreatDoor
