/-
  Texts of the vault, in build order: VCut, VTn2.
-/
import Derived.Test.YtbfhcbihgleddaaGreatDoorM38
/-
  A Put on a disk whose power may go: what it leaves, what a crash leaves of that, what Open finds then. No program in it.
-/
namespace Go.Proofs.YtbfhcbihgleddaaGreatDoor
open Go.RowKit

/-- The disk has just the files F, whatever its power. -/
structure Hz (p : Pd) (F : List Fi) : Prop where
  perm : p.l.Perm F
  nodup : (F.map Fi.n).Nodup
theorem Has.z {p : Pd} {F : List Fi} (h : Has p F) : Hz p F := ⟨h.perm, h.nodup⟩
theorem Hz.cut {p : Pd} {F : List Fi} (h : Hz p F) (n : Int) : Hz { p with left := n } F := ⟨h.perm, h.nodup⟩
section
variable {p : Pd} {F G : List Fi}
theorem Hz.names (h : Hz p F) : (p.l.map Fi.n).Perm (F.map Fi.n) := h.perm.map _
theorem Hz.out (h : Hz p F) {s : List UInt8} (hs : s ∉ F.map Fi.n) : s ∉ p.l.map Fi.n := fun hm => hs (h.names.subset hm)
theorem Hz.get (h : Hz p F) {f : Fi} (hf : f ∈ F) : fGet f.n p.l = some f := fGet_nodup (h.names.nodup_iff.2 h.nodup) (h.perm.symm.subset hf)
theorem Hz.none (h : Hz p F) {s : List UInt8} (hs : s ∉ F.map Fi.n) : fGet s p.l = Option.none := fGet_out (h.out hs)
theorem Hz.sum (h : Hz p F) : fSum p.l = fSum F := fSum_perm h.perm
theorem Hz.re (h : Hz p F) (hp : F.Perm G) : Hz p G := ⟨h.perm.trans hp, (hp.map Fi.n).nodup_iff.1 h.nodup⟩
theorem Hz.write (h : Hz p F) {s : List UInt8} {x : List Nat} (hs : s ∉ F.map Fi.n) (hn : okName s = true) (hr : (fSum F : Int) + x.length ≤ p.room) (hx : x.length ≤ 1048576) : (p.left = 0 ∧ pWrite p s x = (p, 23)) ∨ ∃ p', pWrite p s x = (p', 0) ∧ Hz p' (⟨s, x, 0⟩ :: F) ∧ p'.room = p.room := by
  by_cases h0 : p.left = 0
  · exact .inl ⟨h0, by unfold pWrite; rw [if_pos h0]⟩
  have hw : fWas s p.l = 0 := by unfold fWas; rw [h.none hs]
  have hsum := h.sum
  have hp : pWrite p s x = (({ p with l := fPut ⟨s, x, 0⟩ p.l } : Pd).done, 0) := by
    unfold pWrite
    rw [if_neg h0, if_neg (by rw [hn]; decide), if_neg (by rw [hw]; omega)]
  refine .inr ⟨_, hp, ⟨?_, ?_⟩, rfl⟩
  · show (fPut ⟨s, x, 0⟩ p.l).Perm _
    unfold fPut
    rw [fDel_out (h.out hs)]
    exact (fIns_perm _ _).trans (h.perm.cons _)
  · rw [List.map_cons, List.nodup_cons]
    exact ⟨hs, h.nodup⟩
theorem Hz.sync {s : List UInt8} {x : List Nat} {y : Nat} (h : Hz p (⟨s, x, y⟩ :: F)) : (p.left = 0 ∧ pSync p s = (p, 23)) ∨ ∃ p', pSync p s = (p', 0) ∧ Hz p' (⟨s, x, x.length⟩ :: F) ∧ p'.room = p.room := by
  by_cases h0 : p.left = 0
  · exact .inl ⟨h0, by unfold pSync pFind; rw [if_pos h0]⟩
  have hg : fGet s p.l = some ⟨s, x, y⟩ := h.get (f := ⟨s, x, y⟩) (by simp)
  have hnd := h.nodup
  rw [List.map_cons, List.nodup_cons] at hnd
  have hp : pSync p s = (({ p with l := fPut ⟨s, x, x.length⟩ p.l } : Pd).done, 0) := by
    unfold pSync pFind
    rw [if_neg h0, hg]
  refine .inr ⟨_, hp, ⟨?_, ?_⟩, rfl⟩
  · show (fPut ⟨s, x, x.length⟩ p.l).Perm _
    unfold fPut
    refine (fIns_perm _ _).trans (List.Perm.cons _ ?_)
    refine (fDel_perm h.perm s).trans ?_
    rw [show s = (⟨s, x, y⟩ : Fi).n from rfl, fDel_cons hnd.1]
  · rw [List.map_cons, List.nodup_cons]
    exact hnd
theorem Hz.rename {s t : List UInt8} {x : List Nat} {y : Nat} (h : Hz p (⟨s, x, y⟩ :: F)) (ht : t ∉ F.map Fi.n) (hn : okName t = true) : (p.left = 0 ∧ pRename p s t = (p, 23)) ∨ ∃ p', pRename p s t = (p', 0) ∧ Hz p' (⟨t, x, y⟩ :: F) ∧ p'.room = p.room := by
  by_cases h0 : p.left = 0
  · exact .inl ⟨h0, by unfold pRename pFind; rw [if_pos h0]⟩
  have hg : fGet s p.l = some ⟨s, x, y⟩ := h.get (f := ⟨s, x, y⟩) (by simp)
  have hnd := h.nodup
  rw [List.map_cons, List.nodup_cons] at hnd
  have hd : (fDel s p.l).Perm F := by
    refine (fDel_perm h.perm s).trans ?_
    rw [show s = (⟨s, x, y⟩ : Fi).n from rfl, fDel_cons hnd.1]
  have ht2 : t ∉ (fDel s p.l).map Fi.n := fun hm => ht ((hd.map Fi.n).subset hm)
  have hp : pRename p s t = (({ p with l := fPut ⟨t, x, y⟩ (fDel s p.l) } : Pd).done, 0) := by
    unfold pRename pFind
    rw [if_neg h0, hg]
    simp [hn]
  refine .inr ⟨_, hp, ⟨?_, ?_⟩, rfl⟩
  · show (fPut ⟨t, x, y⟩ (fDel s p.l)).Perm _
    unfold fPut
    rw [fDel_out ht2]
    exact (fIns_perm _ _).trans (hd.cons _)
  · rw [List.map_cons, List.nodup_cons]
    exact ⟨ht, hnd.2⟩
/-- A file that is stored: whole, or perhaps begun when the power went. -/
theorem Hz.store (h : Hz p F) {s : ByteArray} {c : List Nat} (hs : nm s ∉ F.map Fi.n) (hn : okName (nm s) = true) (hr : (fSum F : Int) + (sealed c).length ≤ p.room) (hx : (sealed c).length ≤ 1048576) :
    (∃ p', pStore p s c = (p', 0, true) ∧ Hz p' (⟨nm s, sealed c, (sealed c).length⟩ :: F) ∧ p'.room = p.room) ∨ ∃ p' a E, pStore p s c = (p', 23, a) ∧ p'.left = 0 ∧ Hz p' (E ++ F) ∧ p'.room = p.room ∧ E.length ≤ 1 ∧ ∀ f ∈ E, f.n = nm s := by
  rcases h.write hs hn hr hx with ⟨h0, e1⟩ | ⟨p1, e1, h1, r1⟩
  · refine .inr ⟨p, false, [], ?_, h0, h, rfl, by simp, fun f hf => by cases hf⟩
    unfold pStore
    rw [e1]
    simp
  · rcases h1.sync with ⟨h0, e2⟩ | ⟨p2, e2, h2, r2⟩
    · refine .inr ⟨p1, true, [⟨nm s, sealed c, 0⟩], ?_, h0, h1, r1, by simp, fun f hf => by rw [List.mem_singleton.1 hf]⟩
      unfold pStore
      rw [e1]
      simp only [if_true, e2]
    · refine .inl ⟨p2, ?_, h2, r2.trans r1⟩
      unfold pStore
      rw [e1]
      simp only [if_true, e2]
end
theorem tidy_dead {p : Pd} (h : p.left = 0) (ws : List ByteArray) : pTidy p ws = (p, ws) := by
  cases ws with
  | nil => rfl
  | cons s ws =>
    have e : pDelete p (nm s) = (p, 23) := by unfold pDelete pFind; rw [if_pos h]
    rw [pTidy, e]
    simp
/-- The files that a snapshot under way may leave. -/
def Half (x : Sp) (E : List Fi) : Prop := E.length ≤ 2 ∧ ∀ f ∈ E, f.n = nm (freshN x.n) ∨ ∃ c ∈ x.chunks, f.n = nm (pt1 c x.n)
theorem stores_cut {p : Pd} {F : List Fi} {x : Sp} (hx : One x) (h : Hz p F) (hn : ∀ c ∈ x.chunks, nm (pt1 c x.n) ∉ F.map Fi.n) (hr : (fSum F : Int) + fSum (fP x) ≤ p.room) :
    (∃ p1, pStores p [] x.parts x.chunks = (p1, 0, x.parts) ∧ Hz p1 (fP x ++ F) ∧ p1.room = p.room) ∨ ∃ p1 ws E, pStores p [] x.parts x.chunks = (p1, 23, ws) ∧ p1.left = 0 ∧ Hz p1 (E ++ F) ∧ p1.room = p.room ∧ Half x E := by
  rcases hx.cases with ⟨e1, e2⟩ | ⟨c, e1, e2, hb, hl⟩
  · unfold fP
    rw [e1, e2]
    exact .inl ⟨p, rfl, h, rfl⟩
  · unfold fP at *
    rw [e1] at hn hr ⊢
    rw [e2]
    have hs : fSum [(⟨nm (pt1 c x.n), sealed c, (sealed c).length⟩ : Fi)] = (sealed c).length := by simp [fSum]
    rw [List.map_cons, List.map_nil, hs] at hr
    rcases h.store (s := pt1 c x.n) (c := c) (hn c (by simp)) (ok_p hb hx.lt) hr hl with ⟨p1, g1, g2, g3⟩ | ⟨p1, a, E, g1, g2, g3, g4, g6, g5⟩
    · refine .inl ⟨p1, ?_, g2, g3⟩
      simp only [pStores, g1]
      simp
    · refine .inr ⟨p1, if a then [pt1 c x.n] else [], E, ?_, g2, g3, g4, by omega, fun f hf => .inr ⟨c, by rw [e1]; simp, g5 f hf⟩⟩
      simp only [pStores, g1]
      simp
/-- What lay leaves: all of it, or some files that are none of a snapshot's. -/
theorem lay_cut {p : Pd} {F : List Fi} {x : Sp} (hx : One x) (h : Hz p F) (hp1 : ∀ c ∈ x.chunks, nm (pt1 c x.n) ∉ F.map Fi.n) (hf1 : nm (freshN x.n) ∉ F.map Fi.n) (hw1 : nm (wholeN x.n) ∉ F.map Fi.n) (hr : (fSum F : Int) + fSum (FX [x]) ≤ p.room) :
    (∃ q, pLay x p [] = (q, 0, x.parts ++ [freshN x.n]) ∧ Hz q (fW x :: (fP x ++ F)) ∧ q.room = p.room) ∨ ∃ q ws E, pLay x p [] = (q, 23, ws) ∧ q.left = 0 ∧ Hz q (E ++ F) ∧ q.room = p.room ∧ Half x E := by
  have hsum : fSum (FX [x]) = (sealed (mOut x.n x.ep x.parts)).length + fSum (fP x) := by
    show fSum (fW x :: fP x ++ []) = _
    rw [List.append_nil]
    simp [fSum, fW]
  have hml := hx.man
  have hmE : mEr x.parts = 0 := by unfold mEr; rw [hx.fits]; rfl
  have hPl : (fP x).length ≤ 1 := by unfold fP; rw [List.length_map]; exact hx.len
  have hPP : ∀ f ∈ fP x, f.n = nm (freshN x.n) ∨ ∃ c ∈ x.chunks, f.n = nm (pt1 c x.n) := fun f hf => by
    unfold fP at hf
    obtain ⟨c, hc, rfl⟩ := List.mem_map.1 hf
    exact .inr ⟨c, hc, rfl⟩
  rcases stores_cut hx h hp1 (by omega) with ⟨p1, e1, h1, r1⟩ | ⟨p1, ws, E, e1, h0, h1, r1, hE⟩
  rotate_left
  · refine .inr ⟨p1, ws, E, ?_, h0, h1, r1, hE⟩
    unfold pLay
    rw [if_pos hmE, e1]
    simp
  have hs1 : fSum (fP x ++ F) = fSum (fP x) + fSum F := by simp [fSum]
  have hf2 : nm (freshN x.n) ∉ (fP x ++ F).map Fi.n := fun hm => by
    rw [List.map_append] at hm
    rcases List.mem_append.1 hm with hm | hm
    · unfold fP at hm
      rw [List.map_map] at hm
      obtain ⟨c, hc, e⟩ := List.mem_map.1 hm
      exact f_ne_p e.symm
    · exact hf1 hm
  have hw2 : nm (wholeN x.n) ∉ (fP x ++ F).map Fi.n := fun hm => by
    rw [List.map_append] at hm
    rcases List.mem_append.1 hm with hm | hm
    · unfold fP at hm
      rw [List.map_map] at hm
      obtain ⟨c, hc, e⟩ := List.mem_map.1 hm
      exact w_ne_p e.symm
    · exact hw1 hm
  rcases h1.store (s := freshN x.n) (c := mOut x.n x.ep x.parts) hf2 (ok_f hx.lt) (by rw [r1, hs1]; omega) (by omega) with ⟨p2, e2, h2, r2⟩ | ⟨p2, a, E, e2, h0, h2, r2, hEl, hE⟩
  rotate_left
  · refine .inr ⟨p2, if a then x.parts ++ [freshN x.n] else x.parts, E ++ fP x, ?_, h0, by rw [List.append_assoc]; exact h2, by rw [r2, r1], by rw [List.length_append]; omega, fun f hf => ?_⟩
    · unfold pLay
      rw [if_pos hmE, e1]
      simp only [if_true]
      unfold pLay2
      rw [e2]
      simp
    · rcases List.mem_append.1 hf with hf | hf
      · exact .inl (hE f hf)
      · exact hPP f hf
  rcases h2.rename hw2 (ok_w hx.lt) with ⟨h0, e3⟩ | ⟨p3, e3, h3, r3⟩
  · refine .inr ⟨p2, x.parts ++ [freshN x.n], ⟨nm (freshN x.n), sealed (mOut x.n x.ep x.parts), (sealed (mOut x.n x.ep x.parts)).length⟩ :: fP x, ?_, h0, h2, by rw [r2, r1], by rw [List.length_cons]; omega, fun f hf => ?_⟩
    · unfold pLay
      rw [if_pos hmE, e1]
      simp only [if_true]
      unfold pLay2
      rw [e2]
      simp only [if_true, e3]
    · rcases List.mem_cons.1 hf with rfl | hf
      · exact .inl rfl
      · exact hPP f hf
  · refine .inl ⟨p3, ?_, h3, by rw [r3, r2, r1]⟩
    unfold pLay
    rw [if_pos hmE, e1]
    simp only [if_true]
    unfold pLay2
    rw [e2]
    simp only [if_true, e3]
theorem crash_whole {f : Fi} (h : f.s = f.x.length) (k : Int) : f.torn k = f := by
  have e : f.left k = f.x.length := by unfold Fi.left; rw [h]; omega
  obtain ⟨n, x, s⟩ := f
  simp only at h
  subst h
  unfold Fi.torn
  rw [e]
  simp
theorem crash_names (keep : List Int) (l : List Fi) : (crashL keep l).map Fi.n = l.map Fi.n := by
  apply List.ext_getElem?
  intro i
  rw [List.getElem?_map, List.getElem?_map, crashL_get]
  cases l[i]? <;> rfl
/-- What is whole and synced is there behind a crash. -/
theorem crash_get {p : Pd} {F : List Fi} (h : Hz p F) {f : Fi} (hf : f ∈ F) (hs : f.s = f.x.length) (keep : List Int) : fGet f.n (pCrash p keep).l = some f := by
  have hm : f ∈ p.l := h.perm.symm.subset hf
  obtain ⟨i, hi⟩ := List.mem_iff_getElem?.1 hm
  have hc : (crashL keep p.l)[i]? = some f := by rw [crashL_get, hi]; simp [crash_whole hs]
  refine fGet_nodup ?_ (List.mem_of_getElem? hc)
  show ((crashL keep p.l).map Fi.n).Nodup
  rw [crash_names]
  exact h.names.nodup_iff.2 h.nodup
theorem fx_synced {xs : List Sp} {f : Fi} (h : f ∈ FX xs) : f.s = f.x.length := by
  obtain ⟨x, _, hf⟩ := List.mem_flatMap.1 h
  rcases List.mem_cons.1 hf with rfl | hf
  · rfl
  · unfold fP at hf
    obtain ⟨c, _, rfl⟩ := List.mem_map.1 hf
    rfl
theorem pre_fresh (n : Nat) : pre hWhole (nm (freshN n)) = false := by
  cases h : pre hWhole (nm (freshN n)) with
  | false => rfl
  | true =>
    unfold pre at h
    have h2 := congrArg List.head? (beq_iff_eq.1 h)
    have h3 : (nm (freshN n)).head? = some 110 := by
      unfold freshN nm
      simp
    cases hl : nm (freshN n) with
    | nil => rw [hl] at h3; cases h3
    | cons a r =>
      rw [hl] at h2 h3
      have h4 : a = 110 := by simpa using h3
      subst h4
      simp [hWhole] at h2
theorem half_none {x : Sp} {E : List Fi} (h : Half x E) (q : Pd) {f : Fi} (hf : f ∈ E) : findS q f.n = none := by
  rcases h.2 f hf with e | ⟨c, _, e⟩
  · rw [e]
    unfold findS rdM
    rw [pre_fresh]
    rfl
  · rw [e]
    exact findS_part q x.n 0 (crc c)
theorem filter_rd {q : Pd} {xs : List Sp} (ho : ∀ x ∈ xs, One x) (hu : ∀ x ∈ xs, ∀ c ∈ x.chunks, upOk c = true) (hr : ∀ f ∈ FX xs, rdF q f.n = opn1 f.x) : ∀ l : List Sp, (∀ x ∈ l, x ∈ xs) → ((FX l).map Fi.n).filterMap (fun t => findS q t) = l := by
  intro l
  induction l with
  | nil => intro _; rfl
  | cons x l ih =>
    intro hl
    have hx := hl x (by simp)
    have h1 : (FX (x :: l)).map Fi.n = nm (wholeN x.n) :: ((fP x).map Fi.n ++ (FX l).map Fi.n) := by
      show ((fW x :: fP x) ++ FX l).map Fi.n = _
      rw [List.map_append, List.map_cons]
      rfl
    have h2 : ((fP x).map Fi.n).filterMap (fun t => findS q t) = [] := by
      unfold fP
      rw [List.map_map, List.filterMap_map]
      refine List.filterMap_eq_nil_iff.2 fun c hc => ?_
      exact findS_part q x.n 0 (crc c)
    rw [h1, List.filterMap_cons, find_rd (ho x hx) (hu x hx) (fun f hf => hr f (List.mem_flatMap.2 ⟨x, hx, hf⟩))]
    simp only []
    rw [List.filterMap_append, h2, List.nil_append, ih fun y hy => hl y (by simp [hy])]
/-- Behind a crash Open finds just the snapshots that were whole. -/
theorem found_cut {p : Pd} {xs : List Sp} {E : List Fi} (h : Hz p (E ++ FX xs)) (ho : ∀ x ∈ xs, One x) (hu : ∀ x ∈ xs, ∀ c ∈ x.chunks, upOk c = true) (hE : ∀ q, ∀ f ∈ E, findS q f.n = none) (keep : List Int) :
    (foundS (pCrash p keep) (((pCrash p keep).l.map Fi.n).map mkS)).Perm xs := by
  have hrd : ∀ f ∈ FX xs, rdF (pCrash p keep) f.n = opn1 f.x := fun f hf => rdF_of (by show (-1 : Int) ≠ 0; decide) (crash_get h (List.mem_append_right _ hf) (fx_synced hf) keep)
  unfold foundS
  rw [List.filterMap_map]
  have e : ((fun s => findS (pCrash p keep) (nm s)) ∘ mkS) = fun t => findS (pCrash p keep) t := by
    funext t
    show findS _ (nm (mkS t)) = _
    rw [show nm (mkS t) = t from nm_ba _]
  rw [e]
  have hn : ((pCrash p keep).l.map Fi.n).Perm (E.map Fi.n ++ (FX xs).map Fi.n) := by
    show ((crashL keep p.l).map Fi.n).Perm _
    rw [crash_names, ← List.map_append]
    exact h.names
  refine (hn.filterMap _).trans ?_
  rw [List.filterMap_append, filter_rd ho hu hrd xs (fun x hx => hx), show (E.map Fi.n).filterMap (fun t => findS (pCrash p keep) t) = [] from ?_, List.nil_append]
  rw [List.filterMap_map]
  exact List.filterMap_eq_nil_iff.2 fun f hf => hE _ f hf
end Go.Proofs.YtbfhcbihgleddaaGreatDoor
/-
  One file of a vault's disk torn, turned or gone: what is found then (pure side of VaultTorn).
-/
namespace Go.Proofs.YtbfhcbihgleddaaGreatDoor
open Go.RowKit

theorem FX_sealed {xs : List Sp} {f : Fi} (ho : ∀ x ∈ xs, One x) (hf : f ∈ FX xs) : ∃ l, f.x = sealed l ∧ Byts l ∧ l.length ≤ 1048576 ∧ (sealed l).length ≤ 1048576 := by
  obtain ⟨x, hx, hfx⟩ := List.mem_flatMap.1 hf
  have h1 := ho x hx
  rcases List.mem_cons.1 hfx with rfl | hp
  · have hm1 := h1.man
    have hmb : Byts (mOut (x.n : Int) x.ep x.parts) := by rw [mOut, if_pos h1.fits]; exact manb_byts _ _ _ h1.fits
    have hml : (mOut (x.n : Int) x.ep x.parts).length ≤ 1048576 := by rw [sealed_len] at hm1; omega
    exact ⟨_, rfl, hmb, hml, by omega⟩
  · obtain ⟨c, hc, rfl⟩ := List.mem_map.1 hp
    obtain ⟨h2, h3⟩ := h1.ck c hc
    refine ⟨c, rfl, h2, ?_, h3⟩
    rw [sealed_len] at h3
    omega
/-- What is found behind it. -/
structure After (p q : Pd) (xs : List Sp) (s : List UInt8) : Prop where
  left : q.left = -1
  room : q.room = p.room
  names : ∃ l, (l ++ q.l.map Fi.n).Perm ((FX xs).map Fi.n)
  found : (foundS q ((q.l.map Fi.n).map mkS)).Perm (xs.filter fun x => !hasF x s)
section
variable {p : Pd} {xs : List Sp} {f : Fi}
theorem after_delete (h : Has p (FX xs)) (ho : ∀ x ∈ xs, One x) (hu : ∀ x ∈ xs, ∀ c ∈ x.chunks, upOk c = true) (hf : f ∈ FX xs) : ∃ q, pDelete p f.n = (q, 0) ∧ After p q xs f.n := by
  obtain ⟨q, h1, h2, h3, h4, h5⟩ := torn_delete h hf
  exact ⟨q, h1, h4, h5, ⟨[f.n], by simpa using h3⟩, found_torn h h2 ho hu (.inr h3)⟩
theorem after_write (h : Has p (FX xs)) (ho : ∀ x ∈ xs, One x) (hu : ∀ x ∈ xs, ∀ c ∈ x.chunks, upOk c = true) (hf : f ∈ FX xs) (hr : (fSum (FX xs) : Int) ≤ p.room) {y : List Nat} (hl : y.length ≤ f.x.length) (hy : opn1 y = none) : ∃ q, pWrite p f.n y = (q, 0) ∧ After p q xs f.n := by
  obtain ⟨l, e, _, _, hm⟩ := FX_sealed ho hf
  obtain ⟨q, h1, h2, h3, h4, h5⟩ := torn_write h hf (FX_name ho f.n (List.mem_map.2 ⟨f, hf, rfl⟩)).2 hl (by rw [e]; exact hm) hr hy
  exact ⟨q, h1, h4, h5, ⟨[], by simpa using h3⟩, found_torn h h2 ho hu (.inl h3)⟩
theorem after_cut (h : Has p (FX xs)) (ho : ∀ x ∈ xs, One x) (hu : ∀ x ∈ xs, ∀ c ∈ x.chunks, upOk c = true) (hf : f ∈ FX xs) (hr : (fSum (FX xs) : Int) ≤ p.room) {k : Nat} (hk : k < f.x.length) : ∃ q, pWrite p f.n (f.x.take k) = (q, 0) ∧ After p q xs f.n := by
  obtain ⟨l, e, hb, hl, hm⟩ := FX_sealed ho hf
  refine after_write h ho hu hf hr (by simp; omega) ?_
  rw [e]
  exact opn1_cut hb hl (by rw [← e]; exact hk)
theorem after_turned (h : Has p (FX xs)) (ho : ∀ x ∈ xs, One x) (hu : ∀ x ∈ xs, ∀ c ∈ x.chunks, upOk c = true) (hf : f ∈ FX xs) (hr : (fSum (FX xs) : Int) ≤ p.room) {k y x : Nat} (hx : f.x[k]? = some x) (hy : y < 256) (hne : y ≠ x) : ∃ q, pWrite p f.n (f.x.set k y) = (q, 0) ∧ After p q xs f.n := by
  obtain ⟨l, e, hb, hl, hm⟩ := FX_sealed ho hf
  refine after_write h ho hu hf hr (by simp) ?_
  rw [e] at hx ⊢
  exact opn1_turned hb hl hx hy hne
end
end Go.Proofs.YtbfhcbihgleddaaGreatDoor
