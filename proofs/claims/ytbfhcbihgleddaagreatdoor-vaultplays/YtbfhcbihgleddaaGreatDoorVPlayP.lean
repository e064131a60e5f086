/-
  A vault's disk with foreign files beside, and a Put that may have no room. No program in it.
-/
import Derived.Test.YtbfhcbihgleddaaGreatDoorM42
import Derived.Test.YtbfhcbihgleddaaGreatDoorM38
namespace Go.Proofs.YtbfhcbihgleddaaGreatDoor
open Go.RowKit

section
variable {p : Pd} {F : List Fi}
theorem Has.write22 (h : Has p F) {s : List UInt8} {x : List Nat} (hs : s ∉ F.map Fi.n) (hn : okName s = true) (hx : x.length ≤ 1048576) : (∃ p', pWrite p s x = (p', 0) ∧ Has p' (⟨s, x, 0⟩ :: F) ∧ p'.room = p.room) ∨ pWrite p s x = (p, 22) := by
  by_cases hr : (fSum F : Int) + x.length ≤ p.room
  · exact .inl (h.write hs hn hr hx)
  · have h0 : ¬ (p.left = 0) := by rw [h.left]; decide
    have hw : fWas s p.l = 0 := by unfold fWas; rw [h.none hs]
    have hsum := h.sum
    refine .inr ?_
    unfold pWrite
    rw [if_neg h0, if_neg (by rw [hn]; decide), if_pos (by rw [hw]; omega)]
theorem Has.store22 (h : Has p F) {s : ByteArray} {c : List Nat} (hs : nm s ∉ F.map Fi.n) (hn : okName (nm s) = true) (hx : (sealed c).length ≤ 1048576) : (∃ p', pStore p s c = (p', 0, true) ∧ Has p' (⟨nm s, sealed c, (sealed c).length⟩ :: F) ∧ p'.room = p.room) ∨ pStore p s c = (p, 22, false) := by
  rcases h.write22 hs hn hx with ⟨p1, e1, h1, r1⟩ | e1
  · obtain ⟨p2, e2, h2, r2⟩ := h1.sync
    refine .inl ⟨p2, ?_, h2, r2.trans r1⟩
    unfold pStore
    rw [e1]
    simp only [if_true, e2]
  · refine .inr ?_
    unfold pStore
    rw [e1]
    simp
end
theorem stores22 {p : Pd} {F : List Fi} {x : Sp} (hx : One x) (h : Has p F) (hn : ∀ c ∈ x.chunks, nm (pt1 c x.n) ∉ F.map Fi.n) :
    (∃ p1, pStores p [] x.parts x.chunks = (p1, 0, x.parts) ∧ Has p1 (fP x ++ F) ∧ p1.room = p.room) ∨ pStores p [] x.parts x.chunks = (p, 22, []) := by
  rcases hx.cases with ⟨e1, e2⟩ | ⟨c, e1, e2, hb, hl⟩
  · unfold fP
    rw [e1, e2]
    exact .inl ⟨p, rfl, h, rfl⟩
  · unfold fP at *
    rw [e1] at hn ⊢
    rw [e2]
    rcases h.store22 (s := pt1 c x.n) (c := c) (hn c (by simp)) (ok_p hb hx.lt) hl with ⟨p1, g1, g2, g3⟩ | g1
    · refine .inl ⟨p1, ?_, g2, g3⟩
      simp only [pStores, g1]
      simp
    · refine .inr ?_
      simp only [pStores, g1]
      simp
theorem fP_names {x : Sp} (hx : One x) : (fP x).map Fi.n = x.parts.map nm := by
  rw [hx.parts]
  unfold fP
  rw [List.map_map, List.map_map]
  rfl
/-- What lay does where the room may be too small. -/
theorem lay22 {p : Pd} {F : List Fi} {x : Sp} (hx : One x) (h : Has p F) (hp1 : ∀ c ∈ x.chunks, nm (pt1 c x.n) ∉ F.map Fi.n) (hf1 : nm (freshN x.n) ∉ F.map Fi.n) (hw1 : nm (wholeN x.n) ∉ F.map Fi.n) :
    (∃ q, pLay x p [] = (q, 0, x.parts ++ [freshN x.n]) ∧ Has q (fW x :: (fP x ++ F)) ∧ q.room = p.room) ∨ ∃ q ws E, pLay x p [] = (q, 22, ws) ∧ Has q (E ++ F) ∧ E.map Fi.n = ws.map nm ∧ q.room = p.room := by
  have hml := hx.man
  have hmE : mEr x.parts = 0 := by unfold mEr; rw [hx.fits]; rfl
  rcases stores22 hx h hp1 with ⟨p1, e1, h1, r1⟩ | e1
  rotate_left
  · refine .inr ⟨p, [], [], ?_, h, rfl, rfl⟩
    unfold pLay
    rw [if_pos hmE, e1]
    simp
  have hf2 : nm (freshN x.n) ∉ (fP x ++ F).map Fi.n := fun hm => by
    rw [List.map_append] at hm
    rcases List.mem_append.1 hm with hm | hm
    · unfold fP at hm
      rw [List.map_map] at hm
      obtain ⟨c, hc, e⟩ := List.mem_map.1 hm
      exact f_ne_p e.symm
    · exact hf1 hm
  have hw2 : nm (wholeN x.n) ∉ (fP x ++ F).map Fi.n := fun hm => by
    rw [List.map_append] at hm
    rcases List.mem_append.1 hm with hm | hm
    · unfold fP at hm
      rw [List.map_map] at hm
      obtain ⟨c, hc, e⟩ := List.mem_map.1 hm
      exact w_ne_p e.symm
    · exact hw1 hm
  rcases h1.store22 (s := freshN x.n) (c := mOut x.n x.ep x.parts) hf2 (ok_f hx.lt) (by omega) with ⟨p2, e2, h2, r2⟩ | e2
  rotate_left
  · refine .inr ⟨p1, x.parts, fP x, ?_, h1, fP_names hx, r1⟩
    unfold pLay
    rw [if_pos hmE, e1]
    simp only [if_true]
    unfold pLay2
    rw [e2]
    simp
  obtain ⟨p3, e3, h3, r3⟩ := h2.rename hw2 (ok_w hx.lt)
  refine .inl ⟨p3, ?_, h3, by rw [r3, r2, r1]⟩
  unfold pLay
  rw [if_pos hmE, e1]
  simp only [if_true]
  unfold pLay2
  rw [e2]
  simp only [if_true, e3]
/-- A name that is none of a vault's. -/
def Forn (s : List UInt8) : Prop := s.head? = some 120 ∧ s.length ≤ 2
theorem Forn.w {s : List UInt8} (h : Forn s) (n : Nat) : s ≠ nm (wholeN n) := fun e => by have := h.1; rw [e, head_w] at this; cases this
theorem Forn.p {s : List UInt8} (h : Forn s) (n i c : Nat) : s ≠ nm (partN n i c) := fun e => by have := h.1; rw [e, head_p] at this; cases this
theorem Forn.f {s : List UInt8} (h : Forn s) (n : Nat) : s ≠ nm (freshN n) := fun e => by have := h.1; rw [e, head_f] at this; cases this
theorem Forn.own {s : List UInt8} (h : Forn s) : ownN s = false := by
  obtain ⟨h1, _⟩ := h
  cases s with
  | nil => cases h1
  | cons a r =>
    obtain rfl : a = 120 := by simpa using h1
    simp [ownN, pre, hPart, hWhole, hNew]
theorem Forn.none {s : List UInt8} (h : Forn s) (q : Pd) : findS q s = none := by
  have hp : pre hWhole s = false := by
    have := h.own
    unfold ownN at this
    simp at this
    exact this.2.1
  unfold findS rdM
  rw [hp]
  rfl
theorem Forn.out {xs : List Sp} {s : List UInt8} (h : Forn s) : s ∉ (FX xs).map Fi.n := fun hm => by
  obtain ⟨x, _, e | ⟨c, _, e⟩⟩ := mem_FX.1 hm
  · exact h.w _ e
  · exact h.p _ _ _ e
/-- A Put beside foreign files, where the room may be too small. -/
theorem put22 {p : Pd} {X : List Fi} {xs : List Sp} {x : Sp} {kp : Nat} (h : Has p (X ++ FX xs)) (hX : ∀ f ∈ X, Forn f.n) (hxs : ∀ y ∈ xs, One y) (hx : One x) (hlt : ∀ y ∈ xs, y.n < x.n) :
    (∃ q, pEnd kp xs x (pLay x p []) = (q, 0, (xs ++ [x]).drop (xs.length + 1 - kp), []) ∧ Has q (X ++ FX ((xs ++ [x]).drop (xs.length + 1 - kp))) ∧ q.room = p.room) ∨ ∃ q, pEnd kp xs x (pLay x p []) = (q, 22, xs, []) ∧ Has q (X ++ FX xs) ∧ q.room = p.room := by
  have hap : ∀ s, s ∈ (X ++ FX xs).map Fi.n → Forn s ∨ s ∈ (FX xs).map Fi.n := fun s hs => by
    rw [List.map_append] at hs
    rcases List.mem_append.1 hs with hs | hs
    · obtain ⟨f, hf, rfl⟩ := List.mem_map.1 hs
      exact .inl (hX f hf)
    · exact .inr hs
  have hp1 : ∀ c ∈ x.chunks, nm (pt1 c x.n) ∉ (X ++ FX xs).map Fi.n := fun c hc hm => by
    rcases hap _ hm with hf | hm
    · exact hf.p _ _ _ rfl
    · obtain ⟨y, hy, e | ⟨d, hd, e⟩⟩ := mem_FX.1 hm
      · exact w_ne_p e.symm
      · have := hlt y hy
        rw [(partN_inj e).1] at this
        omega
  have hf1 : nm (freshN x.n) ∉ (X ++ FX xs).map Fi.n := fun hm => by
    rcases hap _ hm with hf | hm
    · exact hf.f _ rfl
    · obtain ⟨y, hy, e | ⟨d, hd, e⟩⟩ := mem_FX.1 hm
      · exact f_ne_w e
      · exact f_ne_p e
  have hw1 : nm (wholeN x.n) ∉ (X ++ FX xs).map Fi.n := fun hm => by
    rcases hap _ hm with hf | hm
    · exact hf.w _ rfl
    · obtain ⟨y, hy, e | ⟨d, hd, e⟩⟩ := mem_FX.1 hm
      · have := hlt y hy
        rw [wholeN_inj e] at this
        omega
      · exact w_ne_p e
  rcases lay22 hx h hp1 hf1 hw1 with ⟨q, e, hq, r⟩ | ⟨q, ws, E, e, hq, hE, r⟩
  · have hperm : (fW x :: (fP x ++ (X ++ FX xs))).Perm (FX ((xs ++ [x]).take (xs.length + 1 - kp)) ++ (X ++ FX ((xs ++ [x]).drop (xs.length + 1 - kp)))) := by
      have h1 : FX ((xs ++ [x]).take (xs.length + 1 - kp)) ++ FX ((xs ++ [x]).drop (xs.length + 1 - kp)) = FX xs ++ (fW x :: fP x) := by
        rw [← FX_app, List.take_append_drop, FX_app]
        congr 1
        show fW x :: fP x ++ [] = _
        rw [List.append_nil]
      have h2 : (FX ((xs ++ [x]).take (xs.length + 1 - kp)) ++ (X ++ FX ((xs ++ [x]).drop (xs.length + 1 - kp)))).Perm (X ++ (FX xs ++ (fW x :: fP x))) := by
        rw [← h1, ← List.append_assoc, ← List.append_assoc]
        exact List.Perm.append_right _ List.perm_append_comm
      refine List.Perm.trans ?_ h2.symm
      rw [← List.append_assoc X]
      exact List.perm_append_comm (l₁ := fW x :: fP x) (l₂ := X ++ FX xs)
    have hall : ∀ y ∈ xs ++ [x], One y := fun y hy => by
      rcases List.mem_append.1 hy with hy | hy
      · exact hxs y hy
      · rcases List.mem_singleton.1 hy with rfl; exact hx
    obtain ⟨p4, e4, h4, r4⟩ := Has.tidy (flsS ((xs ++ [x]).take (xs.length + 1 - kp))) (Has.re hq hperm) (fls_FX fun y hy => hall y (List.mem_of_mem_take hy))
    refine .inl ⟨p4, ?_, h4, by rw [r4, r]⟩
    rw [e]
    unfold pEnd
    rw [if_pos rfl, e4]
  · obtain ⟨p4, e4, h4, r4⟩ := Has.tidy ws hq hE
    refine .inr ⟨p4, ?_, h4, by rw [r4, r]⟩
    rw [e]
    unfold pEnd
    rw [if_neg (show ¬ ((22 : Int) = 0) by decide), e4]
/-- What Open finds beside foreign files. -/
theorem found_X {p : Pd} {X : List Fi} {xs : List Sp} (h : Has p (X ++ FX xs)) (hX : ∀ f ∈ X, Forn f.n) (ho : ∀ x ∈ xs, One x) (hu : ∀ x ∈ xs, ∀ c ∈ x.chunks, upOk c = true) : (foundS p ((p.l.map Fi.n).map mkS)).Perm xs := by
  have hl : p.left ≠ 0 := by rw [h.left]; decide
  have hrd : ∀ f ∈ FX xs, rdF p f.n = opn1 f.x := fun f hf => rdF_of hl (h.get (List.mem_append_right _ hf))
  unfold foundS
  rw [List.filterMap_map]
  have e : ((fun s => findS p (nm s)) ∘ mkS) = fun t => findS p t := by
    funext t
    show findS _ (nm (mkS t)) = _
    rw [show nm (mkS t) = t from nm_ba _]
  rw [e]
  have hn : (p.l.map Fi.n).Perm (X.map Fi.n ++ (FX xs).map Fi.n) := by
    rw [← List.map_append]
    exact h.names
  refine (hn.filterMap _).trans ?_
  rw [List.filterMap_append, filter_rd ho hu hrd xs (fun x hx => hx), show (X.map Fi.n).filterMap (fun t => findS p t) = [] from ?_, List.nil_append]
  rw [List.filterMap_map]
  exact List.filterMap_eq_nil_iff.2 fun f hf => (hX f hf).none p
/-- Nothing is waste then. -/
theorem waste_X {p : Pd} {X : List Fi} {xs : List Sp} {th : List SpV} (h : Has p (X ++ FX xs)) (hX : ∀ f ∈ X, Forn f.n) (ho : ∀ x ∈ xs, One x) (hth : (th.map SpV.s).Perm xs) : wst (fls th) ((p.l.map Fi.n).map mkS) = [] := by
  unfold wst
  refine List.filter_eq_nil_iff.2 fun s hs => ?_
  obtain ⟨t, ht, rfl⟩ := List.mem_map.1 hs
  have ht2 : t ∈ (X ++ FX xs).map Fi.n := h.names.subset ht
  rw [List.map_append] at ht2
  have e : nm (mkS t) = t := nm_ba _
  unfold isW
  rcases List.mem_append.1 ht2 with ht2 | ht2
  · obtain ⟨f, hf, rfl⟩ := List.mem_map.1 ht2
    rw [e, (hX f hf).own]
    simp
  · have hin : inH (fls th) (mkS t) = true := by
      unfold inH
      rw [List.any_eq_true]
      rw [fls_FX ho] at ht2
      obtain ⟨u, hu, e2⟩ := List.mem_map.1 ht2
      refine ⟨u, ?_, by rw [e, e2]; simp⟩
      rw [fls_s]
      unfold flsS at *
      obtain ⟨x, hx, hux⟩ := List.mem_flatMap.1 hu
      exact List.mem_flatMap.2 ⟨x, hth.symm.subset hx, hux⟩
    rw [hin]
    simp
/-- A foreign file is written. -/
theorem write_X {p : Pd} {X : List Fi} {xs : List Sp} (h : Has p (X ++ FX xs)) (hX : ∀ f ∈ X, Forn f.n) {s : List UInt8} (hs : Forn s) (x : List Nat) : ∃ p' er X', pWrite p s x = (p', er) ∧ Has p' (X' ++ FX xs) ∧ (∀ f ∈ X', Forn f.n) ∧ X'.length ≤ X.length + 1 := by
  have h0 : ¬ (p.left = 0) := by rw [h.left]; decide
  unfold pWrite
  rw [if_neg h0]
  by_cases hn : okName s = false
  · rw [if_pos hn]
    exact ⟨p, 21, X, rfl, h, hX, by omega⟩
  rw [if_neg hn]
  by_cases hr : 1048576 < x.length ∨ p.room < (fSum p.l : Int) - (fWas s p.l : Int) + (x.length : Int)
  · rw [if_pos hr]
    exact ⟨p, 22, X, rfl, h, hX, by omega⟩
  rw [if_neg hr]
  have hd : (fDel s p.l).Perm (fDel s X ++ FX xs) := by
    have h1 := fDel_perm h.perm s
    rw [show fDel s (X ++ FX xs) = fDel s X ++ fDel s (FX xs) by unfold fDel; rw [List.filter_append], fDel_out hs.out] at h1
    exact h1
  have hsub : ∀ f ∈ fDel s X, f ∈ X ∧ f.n ≠ s := fun f hf => by
    unfold fDel at hf
    obtain ⟨h1, h2⟩ := List.mem_filter.1 hf
    exact ⟨h1, by simpa using h2⟩
  refine ⟨_, 0, ⟨s, x, 0⟩ :: fDel s X, rfl, ⟨?_, done_inf (p := { p with l := fPut ⟨s, x, 0⟩ p.l }) h.left, ?_⟩, ?_, ?_⟩
  · show (fPut ⟨s, x, 0⟩ p.l).Perm _
    unfold fPut
    exact (fIns_perm _ _).trans (hd.cons _)
  · rw [List.cons_append, List.map_cons, List.nodup_cons]
    refine ⟨fun hm => ?_, ?_⟩
    · rw [List.map_append] at hm
      rcases List.mem_append.1 hm with hm | hm
      · obtain ⟨f, hf, e⟩ := List.mem_map.1 hm
        exact (hsub f hf).2 e
      · exact hs.out hm
    · refine List.Pairwise.sublist ?_ h.nodup
      refine List.Sublist.map _ ?_
      exact List.Sublist.append_right List.filter_sublist _
  · intro f hf
    rcases List.mem_cons.1 hf with rfl | hf
    · exact hs
    · exact hX f (hsub f hf).1
  · rw [List.length_cons]
    have : (fDel s X).length ≤ X.length := List.length_filter_le _ _
    omega
end Go.Proofs.YtbfhcbihgleddaaGreatDoor
