/-
  Put in a script without crashes.
-/
import Derived.Test.YtbfhcbihgleddaaGreatDoorVPlayW
namespace Go.Proofs.YtbfhcbihgleddaaGreatDoor
open Go.RowKit

/-- The first fault of a list of parts. -/
def fstEr : List Sn → Int
  | [] => 0
  | s :: r => if sEr s = 0 then fstEr r else sEr s
theorem fstEr_zero {ss : List Sn} : fstEr ss = 0 ↔ ∀ s ∈ ss, sEr s = 0 := by
  induction ss with
  | nil => simp [fstEr]
  | cons s r ih =>
    rw [fstEr]
    by_cases h : sEr s = 0
    · rw [if_pos h, ih]; simp [h]
    · rw [if_neg h]; simp [h]
theorem fstEr_app {ss : List Sn} {s : Sn} (h : ∀ x ∈ ss, sEr x = 0) (hs : sEr s ≠ 0) (r : List Sn) : fstEr (ss ++ s :: r) = sEr s := by
  induction ss with
  | nil => rw [List.nil_append, fstEr, if_neg hs]
  | cons x l ih => rw [List.cons_append, fstEr, if_pos (h x (by simp)), ih (fun y hy => h y (by simp [hy]))]
theorem pk_fst (ss : List Sn) : ∀ acc c, (pk acc c ss).2 = fstEr ss := by
  induction ss with
  | nil => intro acc c; rfl
  | cons s r ih =>
    intro acc c
    rw [pk, fstEr]
    by_cases h : sEr s = 0
    · rw [if_pos h, if_pos h]
      split
      · exact ih _ _
      · exact ih _ _
    · rw [if_neg h, if_neg h]
theorem srt_of {th : List SpV} {xs : List Sp} (h : th.map SpV.s = xs) (hx : xs.Pairwise fun a b => a.n < b.n) : Srt th := by
  intro i j x y hij hi hj
  rw [← h, List.pairwise_map] at hx
  obtain ⟨h1, rfl⟩ := List.getElem?_eq_some_iff.1 hi
  obtain ⟨h2, rfl⟩ := List.getElem?_eq_some_iff.1 hj
  exact List.pairwise_iff_getElem.1 hx i j h1 h2 hij
/-- What a Put makes of the list. -/
def nowO (kp : Nat) (os : List OnV) (o : OnV) : List OnV := (os ++ [o]).drop ((os ++ [o]).length - kp)
theorem nowO_sp (kp : Nat) (os : List OnV) (o : OnV) : (nowO kp os o).map OnV.sp = (os.map OnV.sp ++ [o.sp]).drop ((os.map OnV.sp).length + 1 - kp) := by
  unfold nowO
  rw [List.map_drop, List.map_append, List.length_append, List.length_map]
  rfl
theorem nowO_mem {kp : Nat} {os : List OnV} {o x : OnV} (h : x ∈ nowO kp os o) : x ∈ os ∨ x = o := by
  have := List.mem_of_mem_drop h
  simpa using this
section
variable {w0 w : World} {B k V b nf kp : Nat} {p : Pd} {X : List Fi} {os : List OnV} {vt vw : Value} {th : List SpV} {la : Option Addr} {lc top : Nat}
theorem LW.put (h : LW w0 w B k V b nf kp p X os vt vw th la lc top) (hg : Glob w0) (hos : os.length ≤ 400) (hkp : kp ≤ 1000) {vs : Value} {l : List SnV} (hin : SnsIn w.heap.size w vs l) (hlo : ∀ x ∈ l, x.s.ok) (hw : (l.map wSn).sum ≤ 20000) {n ep : Nat} (hn : top < n) (hn2 : n < 18446744073709551616) (hep : ep < 18446744073709551616) (hnf : nf + 3000 ≤ 1000000) :
    Calls Tryz.prog 13 #[.pointer (some ⟨V, 0, none⟩), .int .u64 (n : Int), .int .u64 (ep : Int), vs] w fun e w' => ∃ er p' vt' vw' th', e = .returned (.int .i64 er) ∧ VAt w0 w' V k b (nf + 3000) p' (kp : Int) vt' vw' th' [] ∧ PT V k b vt vw vt' vw' w w' ∧
      ((fstEr (l.map SnV.s) ≠ 0 ∧ er = fstEr (l.map SnV.s) ∧ Has p' (X ++ FX (os.map OnV.sp)) ∧ th'.map SpV.s = os.map OnV.sp) ∨
       (fstEr (l.map SnV.s) = 0 ∧ er = 22 ∧ Has p' (X ++ FX (os.map OnV.sp)) ∧ th'.map SpV.s = os.map OnV.sp) ∨
       (fstEr (l.map SnV.s) = 0 ∧ er = 0 ∧ ∀ a c, Has p' (X ++ FX ((nowO kp os ⟨n, ep, a, c, l⟩).map OnV.sp)) ∧ th'.map SpV.s = (nowO kp os ⟨n, ep, a, c, l⟩).map OnV.sp)) := by
  have hones := h.ones
  have hlt : ∀ y ∈ os.map OnV.sp, y.n < n := fun y hy => by
    obtain ⟨o, ho, rfl⟩ := List.mem_map.1 hy
    have := h.top o ho
    show o.n < n
    omega
  have htl := h.thl
  have hl2 : l.length ≤ 2000 := by have := len_w l; omega
  by_cases hf : fstEr (l.map SnV.s) = 0
  · have her : ∀ x ∈ l, sEr x.s = 0 ∧ x.s.ok := fun x hx => ⟨fstEr_zero.1 hf x.s (List.mem_map.2 ⟨x, hx, rfl⟩), hlo x hx⟩
    obtain ⟨h1, h2, _, _, _⟩ := One.light her hw (n := n) (ep := ep) (by omega) hn2 hep
    have hck : (pk [] [] (l.map SnV.s)).1.length ≤ 900 := by
      rw [h1]
      have h3 : (chunksOf (l.map SnV.s)).length ≤ 1 := h2.len
      show (chunksOf _).length ≤ 900
      omega
    have hpp : pPut kp p (os.map OnV.sp) [] n ep (pk [] [] (l.map SnV.s)) = pEnd kp (os.map OnV.sp) (newS n ep (chunksOf (l.map SnV.s))) (pLay (newS n ep (chunksOf (l.map SnV.s))) p []) := by
      rw [h1, pPut, if_pos rfl, if_neg (newest_ltS (by omega) hlt)]
      rfl
    rcases put22 (kp := kp) h.has h.forn hones h2 hlt with ⟨q, e, hq, _⟩ | ⟨q, e, hq, _⟩
    · refine (Put_any h.at_ hg n ep hn2 hep vs l hin (by omega) hck (by omega) (by omega) (hx_of h.is (One.found hones)) (by simp) (fun s hs => by cases hs) hnf q 0 _ [] (by rw [h.is, hpp, e])).mono ?_
      rintro e2 w' ⟨rfl, vt', vw', th', q1, q2, q3⟩
      refine ⟨0, q, vt', vw', th', rfl, q2, q3, .inr (.inr ⟨hf, rfl, fun a c => ?_⟩)⟩
      rw [nowO_sp]
      exact ⟨hq, q1⟩
    · refine (Put_any h.at_ hg n ep hn2 hep vs l hin (by omega) hck (by omega) (by omega) (hx_of h.is (One.found hones)) (by simp) (fun s hs => by cases hs) hnf q 22 _ [] (by rw [h.is, hpp, e])).mono ?_
      rintro e2 w' ⟨rfl, vt', vw', th', q1, q2, q3⟩
      exact ⟨22, q, vt', vw', th', rfl, q2, q3, .inr (.inl ⟨hf, rfl, hq, q1⟩)⟩
  · have hb : ∃ s ∈ l.map SnV.s, sEr s ≠ 0 := by
      apply Classical.byContradiction
      intro hno
      exact hf (fstEr_zero.2 fun s hs => Classical.byContradiction fun hne => hno ⟨s, hs, hne⟩)
    obtain ⟨h1, _⟩ := pk_er _ hb [] []
    have h2 := pk_fst (l.map SnV.s) [] []
    refine (Put_any h.at_ hg n ep hn2 hep vs l hin (by omega) (by rw [h1]; simp) (by omega) (by omega) (hx_of h.is (One.found hones)) (by simp) (fun s hs => by cases hs) hnf p (fstEr (l.map SnV.s)) (os.map OnV.sp) [] (by rw [h.is, pPut, if_neg (by rw [h2]; exact hf), h2])).mono ?_
    rintro e2 w' ⟨rfl, vt', vw', th', q1, q2, q3⟩
    exact ⟨_, p, vt', vw', th', rfl, q2, q3, .inl ⟨hf, rfl, h.has, q1⟩⟩
end
/-- A number that is there already. -/
theorem put_old {w0 w : World} {V k b nf kp : Nat} {p : Pd} {vt vw : Value} {th : List SpV} (hv : VAt w0 w V k b nf p (kp : Int) vt vw th []) (hg : Glob w0) {xs : List Sp} (hth : th.map SpV.s = xs) (hxs : ∀ y ∈ xs, One y) (hll : xs.length ≤ 400) (hkp : kp ≤ 1000) {n : Nat} (hn : n ≤ newestS xs) (hn2 : n < 18446744073709551616) (hnf : nf + 3000 ≤ 1000000) :
    Calls Tryz.prog 13 #[.pointer (some ⟨V, 0, none⟩), .int .u64 (n : Int), .int .u64 1, .slice none 0 0] w fun e w' => e = .returned (.int .i64 31) ∧ ∃ vt' vw' th', VAt w0 w' V k b (nf + 3000) p (kp : Int) vt' vw' th' [] ∧ th'.map SpV.s = xs ∧ PT V k b vt vw vt' vw' w w' := by
  have hlen : th.length = xs.length := by have := congrArg List.length hth; rwa [List.length_map] at this
  have hin : SnsIn w.heap.size w (.slice none 0 0) [] := ⟨⟨none, 0, rfl, by simp, .inl rfl⟩, (fun x hx => by cases hx), (fun x hx => by cases hx)⟩
  have := Put_any hv hg n 1 hn2 (by decide) (.slice none 0 0) [] hin (by simp) (by simp [pk]) (by omega) (by omega) (hx_of hth (One.found hxs)) (by simp) (fun s hs => by cases hs) hnf p 31 xs [] (by
    rw [hth, pPut, if_pos (show (pk [] [] (([] : List SnV).map SnV.s)).2 = 0 from rfl), if_pos hn])
  refine this.mono ?_
  rintro e w' ⟨rfl, vt', vw', th', q1, q2, q3⟩
  exact ⟨rfl, vt', vw', th', q2, q1, q3⟩
end Go.Proofs.YtbfhcbihgleddaaGreatDoor
