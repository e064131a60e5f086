/-
  Texts of the vault, in build order: OpenMan, RdPane, RdListI, RdListP.
-/
import Derived.Test.YtbfhcbihgleddaaGreatDoorM09
import Derived.Test.YtbfhcbihgleddaaGreatDoorM08
/-
  Walks over package codec's readers of manifests: the whole.
-/
namespace Go.Proofs.YtbfhcbihgleddaaGreatDoor
open Go.RowKit

theorem OwnS.setBox {base k t : Nat} {w : World} {v : Value} {ss : List ByteArray} {cs : Array Value} (h : OwnS base w v ss) (hb : BoxT t w k cs) (ht : t ≠ 9) (j : Nat) (u : Value) : OwnS base (w.setCell ⟨k, j, none⟩ u) v ss := by
  refine ⟨h.1, ?_⟩
  rcases h.2 with h | ⟨g, cap, cur, h1, h2, h3, h4⟩
  · exact .inl h
  · refine .inr ⟨g, cap, cur, h1, h2, ?_, h4⟩
    rw [Below.heap_setCell w ⟨k, j, none⟩ u g]
    · exact h3
    · show g ≠ k
      intro e
      subst e
      unfold BoxT at hb
      rw [hb] at h3
      simp at h3
      exact ht h3.2
theorem OwnS.alloc {base : Nat} {w : World} {v : Value} {ss : List ByteArray} (h : OwnS base w v ss) (o : Obj) : OwnS base (w.alloc o) v ss := World.ownsRow.alloc h o
theorem OwnS.below {base : Nat} {w w' : World} {v : Value} {ss : List ByteArray} (h : OwnS base w v ss) (hb : Below w.heap.size w w') : OwnS base w' v ss := by
  refine ⟨h.1, ?_⟩
  rcases h.2 with h | ⟨g, cap, cur, h1, h2, h3, h4⟩
  · exact .inl h
  · exact .inr ⟨g, cap, cur, h1, h2, by rw [hb.block g (Array.getElem?_eq_some_iff.1 h3).1]; exact h3, h4⟩
theorem OwnS.mono {base base' : Nat} {w : World} {v : Value} {ss : List ByteArray} (h : OwnS base w v ss) (hb : base' ≤ base) : OwnS base' w v ss := by
  refine ⟨h.1, ?_⟩
  rcases h.2 with h | ⟨g, cap, cur, h1, h2, h3⟩
  · exact .inl h
  · exact .inr ⟨g, cap, cur, h1, by omega, h3⟩

/-- In the midst of readManifest. -/
structure RM (R : Nat) (w0 w : World) (c0 c1 c2 : Value) (s : List Nat × Bool) : Prop where
  rd : RdS R w s
  bF : BoxT 110 w (w0.heap.size + 1) #[c0, c1, c2]
  bA : ∃ a0 a1 a2, BoxT 110 w w0.heap.size #[a0, a1, a2]
  gr : w0.grownBy w (some R)
  rl : R < w0.heap.size
theorem RM.call {R : Nat} {w0 w w' : World} {c0 c1 c2 : Value} {s s' : List Nat × Bool} (h : RM R w0 w c0 c1 c2 s) (hr : RdS R w' s') (hg : w.grownBy w' (some R)) : RM R w0 w' c0 c1 c2 s' := by
  have := h.rl
  obtain ⟨a0, a1, a2, hA⟩ := h.bA
  exact ⟨hr, h.bF.grown hg (by omega), ⟨a0, a1, a2, hA.grown hg (by omega)⟩, grownBy_trans h.gr hg, h.rl⟩
theorem RM.set {R : Nat} {w0 w : World} {c0 c1 c2 : Value} {s : List Nat × Bool} (h : RM R w0 w c0 c1 c2 s) (j : Nat) (u d0 d1 d2 : Value) (hd : #[c0, c1, c2].setIfInBounds j u = #[d0, d1, d2]) : RM R w0 (w.setCell ⟨w0.heap.size + 1, j, none⟩ u) d0 d1 d2 s := by
  have := h.rl
  obtain ⟨a0, a1, a2, hA⟩ := h.bA
  exact ⟨h.rd.set _ _ _ (by omega), by rw [← hd]; exact h.bF.set j u, ⟨a0, a1, a2, hA.other _ _ (by omega)⟩, grown_set h.gr _ _ _ (by omega), h.rl⟩
theorem RM.start {R : Nat} {w0 : World} {a0 a1 a2 c0 c1 c2 : Value} {s : List Nat × Bool} (hr : RdS R w0 s) : RM R w0 ((w0.alloc (.cells #[a0, a1, a2] 110)).alloc (.cells #[c0, c1, c2] 110)) c0 c1 c2 s :=
  ⟨(hr.alloc _).alloc _, BoxT.new_at (by simp), ⟨a0, a1, a2, (BoxT.new 110 w0 _).alloc _⟩, grown_alloc (grownBy_alloc' _ _ _) _, hr.lt⟩
theorem fin3 {w : World} {k : Nat} {a0 a1 a2 : Value} (hA : BoxT 110 w k #[a0, a1, a2]) (v0 v1 v2 : Value) (W : World)
    (hW : W = ((w.setCell ⟨k, 0, none⟩ v0).setCell ⟨k, 1, none⟩ v1).setCell ⟨k, 2, none⟩ v2) :
    Below k w W ∧ BoxT 110 W k #[v0, v1, v2] ∧ (∀ base v ss, OwnS base w v ss → OwnS base W v ss) := by
  subst hW
  have h0 : BoxT 110 _ _ #[v0, a1, a2] := hA.set 0 v0
  have h1 : BoxT 110 _ _ #[v0, v1, a2] := h0.set 1 v1
  refine ⟨?_, h1.set 2 v2, fun base v ss h => ?_⟩
  · exact (((Below.refl k w).setCell (Nat.le_refl _) _).setCell (Nat.le_refl _) _).setCell (Nat.le_refl _) _
  · exact ((h.setBox hA (by decide) _ _).setBox h0 (by decide) _ _).setBox h1 (by decide) _ _
theorem RM.fin {R : Nat} {w0 w : World} {c0 c1 c2 : Value} {s : List Nat × Bool} (h : RM R w0 w c0 c1 c2 s) (v0 v1 v2 : Value) (W : World)
    (hW : W = ((w.setCell ⟨w0.heap.size, 0, none⟩ v0).setCell ⟨w0.heap.size, 1, none⟩ v1).setCell ⟨w0.heap.size, 2, none⟩ v2) :
    RdS R W s ∧ w0.grownBy W (some R) ∧ BoxT 110 W w0.heap.size #[v0, v1, v2] ∧ (∀ base v ss, OwnS base w v ss → OwnS base W v ss) := by
  have hR := h.rl
  obtain ⟨a0, a1, a2, hA⟩ := h.bA
  have hb := (fin3 hA v0 v1 v2 W hW).2
  subst hW
  refine ⟨((h.rd.set _ _ _ hR).set _ _ _ hR).set _ _ _ hR, ?_, hb⟩
  exact grown_set (grown_set (grown_set h.gr _ _ _ (Nat.le_refl _)) _ _ _ (Nat.le_refl _)) _ _ _ (Nat.le_refl _)

/-- What readManifest reads. -/
structure Man where
  n : Nat
  ep : Nat
  ss : List ByteArray
def rMan (s : List Nat × Bool) : Man × (List Nat × Bool) :=
  (⟨(num 8 s).1, (num 8 (num 8 s).2).1, (rListS (num 2 (num 8 (num 8 s).2).2).1 (num 2 (num 8 (num 8 s).2).2).2).1⟩, (rListS (num 2 (num 8 (num 8 s).2).2).1 (num 2 (num 8 (num 8 s).2).2).2).2)
theorem rListS_len (n : Nat) : ∀ s, (rListS n s).1.length ≤ n := by
  induction n with
  | zero => intro s; simp [rListS]
  | succ n ih =>
    intro s
    unfold rListS
    split
    · simp
    · have := ih (rName s).2
      simp; omega

set_option maxHeartbeats 2000000 in
set_option maxRecDepth 100000 in
theorem readManifest_any {R : Nat} {w : World} {s : List Nat × Bool} (h : RdS R w s) :
    Calls Tryz.prog 117 #[.pointer (some ⟨R, 0, none⟩)] w fun e w' => ∃ v, e = .returned (.agg #[.int .u64 ((rMan s).1.n : Nat), .int .u64 ((rMan s).1.ep : Nat), v]) ∧ OwnS w.heap.size w' v (rMan s).1.ss ∧ RdS R w' (rMan s).2 ∧ w.grownBy w' (some R) := by
  have q := RM.start (a0 := .int .u64 0) (a1 := .int .u64 0) (a2 := .slice none 0 0) (c0 := .int .u64 0) (c1 := .int .u64 0) (c2 := .slice none 0 0) h
  have hR := h.lt
  unfold rMan
  simp only
  go_enter Tryz.func117, Tryz.ntmps117
  go_wp2_with fail
  refine (number_any (sz := 8) q.rd (by omega) (by omega)).mono ?_
  rw [show (8 : Int).toNat = 8 from rfl]
  rintro e w1 ⟨rfl, hr, hg⟩
  have q := q.call hr hg
  clear hr hg
  obtain ⟨c0, c1, c2⟩ := q.bF.cells3
  have fr := q.bF.free
  have q := q.set 0 (.int .u64 ((num 8 s).1 : Nat)) _ _ _ rfl
  go_wp2_with fail
  refine (number_any (sz := 8) q.rd (by omega) (by omega)).mono ?_
  rw [show (8 : Int).toNat = 8 from rfl]
  rintro e w2 ⟨rfl, hr, hg⟩
  have q := q.call hr hg
  clear hr hg c0 c1 c2 fr
  obtain ⟨c0, c1, c2⟩ := q.bF.cells3
  have fr := q.bF.free
  have q := q.set 1 (.int .u64 ((num 8 (num 8 s).2).1 : Nat)) _ _ _ rfl
  have hz := q.gr.size
  go_wp2_with fail
  refine (readListS_any q.rd).mono ?_
  rintro e w3 ⟨v3, rfl, ho3, hr, hg⟩
  have ho3 := ho3.mono hz
  obtain ⟨ao3, cap3, hv3⟩ := ho3.shape
  rw [hv3] at ho3 ⊢
  have q := q.call hr hg
  clear hr hg c0 c1 c2 fr hv3
  obtain ⟨c0, c1, c2⟩ := q.bF.cells3
  have fr := q.bF.free
  have ho3 := ho3.setBox q.bF (by decide) 2 (.slice ao3 (rListS (num 2 (num 8 (num 8 s).2).2).1 (num 2 (num 8 (num 8 s).2).2).2).1.length cap3)
  have q := q.set 2 (.slice ao3 (rListS (num 2 (num 8 (num 8 s).2).2).1 (num 2 (num 8 (num 8 s).2).2).2).1.length cap3) _ _ _ rfl
  obtain ⟨e0, e1, e2⟩ := q.bF.cells3
  obtain ⟨a0, a1, a2, hA⟩ := q.bA
  obtain ⟨d0, d1, d2⟩ := hA.cells3
  have fa := hA.free
  clear c0 c1
  go_wp2
  obtain ⟨hrd, hgr, bx, hown⟩ := q.fin (.int .u64 ((num 8 s).1 : Nat)) (.int .u64 ((num 8 (num 8 s).2).1 : Nat)) (.slice ao3 (rListS (num 2 (num 8 (num 8 s).2).2).1 (num 2 (num 8 (num 8 s).2).2).2).1.length cap3) _ rfl
  obtain ⟨x0, x1, x2⟩ := bx.cells3
  exact bodyPost_ret (v := .agg #[.int .u64 ((num 8 s).1 : Nat), .int .u64 ((num 8 (num 8 s).2).1 : Nat), .slice ao3 (rListS (num 2 (num 8 (num 8 s).2).2).1 (num 2 (num 8 (num 8 s).2).2).2).1.length cap3]) (by simp [results, Tryz.results117, go_sem, x0, x1, x2]) rfl ⟨_, rfl, hown _ _ _ ho3, hrd, hgr⟩

/-- What OpenManifest tells: what was read, and 0; or nothing, and 10. -/
def OMPost (w : World) (ok : Bool) (m : Man) (e : Ending) (w' : World) : Prop :=
  ∃ v, e = .returned (.tuple #[.agg #[.int .u64 ((if ok then m.n else 0 : Nat) : Int), .int .u64 ((if ok then m.ep else 0 : Nat) : Int), v], .int .i64 (if ok then 0 else 10)]) ∧ OwnS w.heap.size w' v (if ok then m.ss else []) ∧ Below w.heap.size w w'
theorem OMPost.yes {w w' : World} {m : Man} {v : Value} (ho : OwnS w.heap.size w' v m.ss) (hb : Below w.heap.size w w') : OMPost w true m (.returned (.tuple #[.agg #[.int .u64 (m.n : Nat), .int .u64 (m.ep : Nat), v], .int .i64 0])) w' := ⟨v, rfl, ho, hb⟩
theorem OMPost.no {w w' : World} {m : Man} (hb : Below w.heap.size w w') : OMPost w false m (.returned (.tuple #[.agg #[.int .u64 0, .int .u64 0, .slice none 0 0], .int .i64 10])) w' := ⟨_, rfl, OwnS.nil _ _, hb⟩

set_option maxHeartbeats 2000000 in
set_option maxRecDepth 100000 in
theorem readAllM_any (v : Value) (l : List Nat) (w : World) (h : Seg w v l) (hb : Byts l) :
    Calls Tryz.prog 116 #[v, .func (.func 117) #[] #[]] w (OMPost w (done (rMan (l, false)).2) (rMan (l, false)).1) := by
  have hrf := fun o => readManifest_any (RdS.start_at (k := w.heap.size + 1) (by simp) (h.alloc o) hb)
  obtain ⟨ao, cap, rfl, h2, h3, h3', h4⟩ := h
  generalize rMan (l, false) = p at *
  obtain ⟨⟨n, ep, ss⟩, s1, bad⟩ := p
  simp only at *
  have HR := hrf
  clear h4 hrf
  cases bad
  · rcases s1 with _ | ⟨x, s1⟩
    · rw [show done ([], false) = true from rfl]
      go_enter Tryz.func116, Tryz.ntmps116
      go_wp2_with fail
      refine (HR _).mono ?_
      rintro e w1 ⟨v1, rfl, ho1, hr, hg⟩
      clear HR
      obtain ⟨ao1, cap1, hv1⟩ := ho1.shape
      rw [hv1] at ho1 ⊢
      clear hv1
      obtain ⟨ao', cap', r0, r1, rf⟩ := hr.cells
      have bA := ((BoxT.new 110 w _).alloc (.cells #[.slice ao l.length cap, .bool false] 177) |>.grown hg (by omega)).alloc (.cells #[.int .u64 n, .int .u64 ep, .slice ao1 ss.length cap1] 110)
      have hbel := Below.trans (((Below.refl w.heap.size w).alloc (Nat.le_refl _) _).alloc (by simp) _) (Below.of_grown hg (B := w.heap.size) (by omega) (by simp; omega))
      have ho1 := (ho1.mono (show w.heap.size ≤ _ by simp; omega)).alloc (.cells #[.int .u64 n, .int .u64 ep, .slice ao1 ss.length cap1] 110)
      obtain ⟨d0, d1, d2⟩ := bA.cells3
      have fa := bA.free
      have hz := hbel.size
      have hR := hr.lt
      clear hg
      go_wp2
      obtain ⟨hW, hx, hown⟩ := fin3 bA (.int .u64 n) (.int .u64 ep) (.slice ao1 ss.length cap1) _ rfl
      obtain ⟨x0, x1, x2⟩ := hx.cells3
      exact bodyPost_ret (v := .tuple #[.agg #[.int .u64 n, .int .u64 ep, .slice ao1 ss.length cap1], .int .i64 0]) (by simp [results, Tryz.results116, go_sem, x0, x1, x2]) rfl (OMPost.yes (m := ⟨n, ep, ss⟩) (hown _ _ _ ho1) ((hbel.alloc (by omega) _).trans hW))
    · rw [show done (x :: s1, false) = false from rfl]
      go_enter Tryz.func116, Tryz.ntmps116
      go_wp2_with fail
      refine (HR _).mono ?_
      rintro e w1 ⟨v1, rfl, ho1, hr, hg⟩
      clear HR
      obtain ⟨ao1, cap1, hv1⟩ := ho1.shape
      rw [hv1] at ho1 ⊢
      clear hv1 ho1
      obtain ⟨ao', cap', r0, r1, rf⟩ := hr.cells
      have bA := (((BoxT.new 110 w _).alloc (.cells #[.slice ao l.length cap, .bool false] 177) |>.grown hg (by omega)).alloc (.cells #[.int .u64 n, .int .u64 ep, .slice ao1 ss.length cap1] 110)).alloc (.cells #[.int .u64 0, .int .u64 0, .slice none 0 0] 110)
      have hbel := Below.trans (((Below.refl w.heap.size w).alloc (Nat.le_refl _) _).alloc (by simp) _) (Below.of_grown hg (B := w.heap.size) (by omega) (by simp; omega))
      obtain ⟨d0, d1, d2⟩ := bA.cells3
      have fa := bA.free
      have hz := hbel.size
      have hR := hr.lt
      have hpos : (0 : Int) < (s1.length : Int) + 1 := by omega
      clear hg
      go_wp2
      obtain ⟨hW, hx, hown⟩ := fin3 bA (.int .u64 0) (.int .u64 0) (.slice none 0 0) _ rfl
      obtain ⟨x0, x1, x2⟩ := hx.cells3
      exact bodyPost_ret (v := .tuple #[.agg #[.int .u64 0, .int .u64 0, .slice none 0 0], .int .i64 10]) (by simp [results, Tryz.results116, go_sem, x0, x1, x2]) rfl (OMPost.no (((hbel.alloc (by omega) _).alloc (by simp; omega) _).trans hW))
  · rw [show done (s1, true) = false from rfl]
    go_enter Tryz.func116, Tryz.ntmps116
    go_wp2_with fail
    refine (HR _).mono ?_
    rintro e w1 ⟨v1, rfl, ho1, hr, hg⟩
    clear HR
    obtain ⟨ao1, cap1, hv1⟩ := ho1.shape
    rw [hv1] at ho1 ⊢
    clear hv1 ho1
    obtain ⟨ao', cap', r0, r1, rf⟩ := hr.cells
    have bA := (((BoxT.new 110 w _).alloc (.cells #[.slice ao l.length cap, .bool false] 177) |>.grown hg (by omega)).alloc (.cells #[.int .u64 n, .int .u64 ep, .slice ao1 ss.length cap1] 110)).alloc (.cells #[.int .u64 0, .int .u64 0, .slice none 0 0] 110)
    have hbel := Below.trans (((Below.refl w.heap.size w).alloc (Nat.le_refl _) _).alloc (by simp) _) (Below.of_grown hg (B := w.heap.size) (by omega) (by simp; omega))
    obtain ⟨d0, d1, d2⟩ := bA.cells3
    have fa := bA.free
    have hz := hbel.size
    have hR := hr.lt
    clear hg
    go_wp2
    obtain ⟨hW, hx, hown⟩ := fin3 bA (.int .u64 0) (.int .u64 0) (.slice none 0 0) _ rfl
    obtain ⟨x0, x1, x2⟩ := hx.cells3
    exact bodyPost_ret (v := .tuple #[.agg #[.int .u64 0, .int .u64 0, .slice none 0 0], .int .i64 10]) (by simp [results, Tryz.results116, go_sem, x0, x1, x2]) rfl (OMPost.no (((hbel.alloc (by omega) _).alloc (by simp; omega) _).trans hW))

set_option maxHeartbeats 2000000 in
set_option maxRecDepth 100000 in
theorem OpenManifest_any (v : Value) (l : List Nat) (w : World) (h : Seg w v l) (hb : Byts l) :
    Calls Tryz.prog 82 #[v] w (OMPost w (done (rMan (l, false)).2) (rMan (l, false)).1) := by
  have hra := fun o => readAllM_any v l (w.alloc o) (h.alloc o) hb
  generalize done (rMan (l, false)).2 = ok at *
  generalize (rMan (l, false)).1 = m at *
  have HR := hra
  clear hra
  generalize hn : (if ok then m.n else 0) = n at *
  generalize he : (if ok then m.ep else 0) = ep at *
  generalize hss : (if ok then m.ss else []) = ss at *
  generalize her : (if ok then (0 : Int) else 10) = er at *
  have key : ∀ (e : Ending) (w0 w' : World), OMPost w0 ok m e w' → ∃ v, e = .returned (.tuple #[.agg #[.int .u64 n, .int .u64 ep, v], .int .i64 er]) ∧ OwnS w0.heap.size w' v ss ∧ Below w0.heap.size w0 w' := by
    rintro e w0 w' ⟨v, h1, h2, h3⟩
    rw [hn, he, her] at h1
    rw [hss] at h2
    exact ⟨v, h1, h2, h3⟩
  have back : ∀ (v : Value) (w' : World), OwnS w.heap.size w' v ss → Below w.heap.size w w' → OMPost w ok m (.returned (.tuple #[.agg #[.int .u64 n, .int .u64 ep, v], .int .i64 er])) w' := by
    intro v w' h2 h3
    refine ⟨v, ?_, ?_, h3⟩
    · rw [hn, he, her]
    · rw [hss]; exact h2
  have KEY : Hid (∀ (e : Ending) (w0 w' : World), OMPost w0 ok m e w' → ∃ v, e = .returned (.tuple #[.agg #[.int .u64 n, .int .u64 ep, v], .int .i64 er]) ∧ OwnS w0.heap.size w' v ss ∧ Below w0.heap.size w0 w') := key
  have BACK : Hid (∀ (v : Value) (w' : World), OwnS w.heap.size w' v ss → Below w.heap.size w w' → OMPost w ok m (.returned (.tuple #[.agg #[.int .u64 n, .int .u64 ep, v], .int .i64 er])) w') := back
  clear key back hn he hss her h hb
  go_enter Tryz.func82, Tryz.ntmps82
  go_wp2_with fail
  refine (HR _).mono ?_
  intro e w1 hp
  obtain ⟨v1, rfl, ho1, hb1⟩ := KEY.out _ _ _ hp
  clear HR hp
  obtain ⟨ao1, cap1, hv1⟩ := ho1.shape
  rw [hv1] at ho1 ⊢
  have ho1 := ho1.mono (show w.heap.size ≤ _ by simp)
  clear hv1
  have bA := (BoxT.new 110 w _).kept (base := 0) (Kept.of_below hb1) (by decide)
  obtain ⟨d0, d1, d2⟩ := bA.cells3
  have fa := bA.free
  go_wp2
  obtain ⟨hW, hx, hown⟩ := fin3 bA (.int .u64 n) (.int .u64 ep) (.slice ao1 ss.length cap1) _ rfl
  obtain ⟨x0, x1, x2⟩ := hx.cells3
  exact bodyPost_ret (v := .tuple #[.agg #[.int .u64 n, .int .u64 ep, .slice ao1 ss.length cap1], .int .i64 er]) (by simp [results, Tryz.results82, go_sem, x0, x1, x2]) rfl (BACK.out _ _ (hown _ _ _ ho1) ((((Below.refl _ _).alloc (Nat.le_refl _) _).trans (hb1.mono (by simp))).trans hW))
end Go.Proofs.YtbfhcbihgleddaaGreatDoor
/-
  Walks over package codec's readers of snapshots: panes and captured frames.
-/
namespace Go.Proofs.YtbfhcbihgleddaaGreatDoor
open Go.RowKit

/-- In the midst of a reader that fills a box of type t: its own box is the second that it made, the result's the first. -/
structure RB (t n R : Nat) (w0 w : World) (cs : Array Value) (s : List Nat × Bool) : Prop where
  rd : RdS R w s
  bF : BoxT t w (w0.heap.size + 1) cs
  bA : ∃ ca : Array Value, ca.size = n ∧ BoxT t w w0.heap.size ca
  gr : w0.grownBy w (some R)
  rl : R < w0.heap.size
section
variable {t n R : Nat} {w0 w w' : World} {cs : Array Value} {s s' : List Nat × Bool}
theorem RB.call (h : RB t n R w0 w cs s) (hr : RdS R w' s') (hg : w.grownBy w' (some R)) : RB t n R w0 w' cs s' := by
  have := h.rl
  obtain ⟨ca, hn, hA⟩ := h.bA
  exact ⟨hr, h.bF.grown hg (by omega), ⟨ca, hn, hA.grown hg (by omega)⟩, grownBy_trans h.gr hg, h.rl⟩
theorem RB.set (h : RB t n R w0 w cs s) (j : Nat) (u : Value) : RB t n R w0 (w.setCell ⟨w0.heap.size + 1, j, none⟩ u) (cs.setIfInBounds j u) s := by
  have := h.rl
  obtain ⟨ca, hn, hA⟩ := h.bA
  exact ⟨h.rd.set _ _ _ (by omega), h.bF.set j u, ⟨ca, hn, hA.other _ _ (by omega)⟩, grown_set h.gr _ _ _ (by omega), h.rl⟩
theorem RB.start {ca : Array Value} (hn : ca.size = n) (hr : RdS R w0 s) : RB t n R w0 ((w0.alloc (.cells ca t)).alloc (.cells cs t)) cs s :=
  ⟨(hr.alloc _).alloc _, BoxT.new_at (by simp), ⟨ca, hn, (BoxT.new t w0 _).alloc _⟩, grown_alloc (grownBy_alloc' _ _ _) _, hr.lt⟩
end
/-- So many cells stored one after another. -/
def setAll (w : World) (k j : Nat) : List Value → World
  | [] => w
  | v :: vs => setAll (w.setCell ⟨k, j, none⟩ v) k (j + 1) vs
def setL (ca : Array Value) (j : Nat) : List Value → Array Value
  | [] => ca
  | v :: vs => setL (ca.setIfInBounds j v) (j + 1) vs
theorem BoxT.setAll {t k : Nat} (vs : List Value) : ∀ {w : World} {ca : Array Value} {j : Nat}, BoxT t w k ca → BoxT t (setAll w k j vs) k (setL ca j vs) := by
  induction vs with
  | nil => intro w ca j h; exact h
  | cons v vs ih => intro w ca j h; exact ih (h.set j v)
theorem RdS.setAll {R k : Nat} {s : List Nat × Bool} (hk : R < k) (vs : List Value) : ∀ {w : World} {j : Nat}, RdS R w s → RdS R (setAll w k j vs) s := by
  induction vs with
  | nil => intro w j h; exact h
  | cons v vs ih => intro w j h; exact ih (h.set k j v hk)
theorem grown_setAll {a : World} {r : Option Nat} {k : Nat} (hk : a.heap.size ≤ k) (vs : List Value) : ∀ {w : World} {j : Nat}, a.grownBy w r → a.grownBy (setAll w k j vs) r := by
  induction vs with
  | nil => intro w j h; exact h
  | cons v vs ih => intro w j h; exact ih (grown_set h k j v hk)
theorem arr4 {ca : Array Value} (h : ca.size = 4) : ∃ a0 a1 a2 a3, ca = #[a0, a1, a2, a3] := by
  obtain ⟨l⟩ := ca
  match l, h with
  | [a0, a1, a2, a3], _ => exact ⟨a0, a1, a2, a3, rfl⟩
theorem arr8 {ca : Array Value} (h : ca.size = 8) : ∃ a0 a1 a2 a3 a4 a5 a6 a7, ca = #[a0, a1, a2, a3, a4, a5, a6, a7] := by
  obtain ⟨l⟩ := ca
  match l, h with
  | [a0, a1, a2, a3, a4, a5, a6, a7], _ => exact ⟨a0, a1, a2, a3, a4, a5, a6, a7, rfl⟩

/-- What readPane reads. -/
def rPane (s : List Nat × Bool) : Pn × (List Nat × Bool) :=
  (⟨i64of (num 8 s).1, i64of (num 8 (num 8 s).2).1, i64of (num 8 (num 8 (num 8 s).2).2).1, i64of (num 8 (num 8 (num 8 (num 8 s).2).2).2).1⟩, (num 8 (num 8 (num 8 (num 8 s).2).2).2).2)

set_option maxHeartbeats 2000000 in
set_option maxRecDepth 100000 in
theorem readPane_any {R : Nat} {w : World} {s : List Nat × Bool} (h : RdS R w s) :
    Calls Tryz.prog 140 #[.pointer (some ⟨R, 0, none⟩)] w fun e w' => e = .returned (.agg (rPane s).1.cs.toArray) ∧ RdS R w' (rPane s).2 ∧ w.grownBy w' (some R) := by
  have hR := h.lt
  have q := fun (ca cs : Array Value) (hn : ca.size = 4) => RB.start (t := 145) (n := 4) (cs := cs) hn h
  unfold rPane
  have q := q #[.int .i64 0, .int .i64 0, .int .i64 0, .int .i64 0] #[.int .i64 0, .int .i64 0, .int .i64 0, .int .i64 0] rfl
  go_enter Tryz.func140, Tryz.ntmps140
  go_wp2_with fail
  refine (readSigned_any q.rd).mono ?_
  rintro e w1 ⟨rfl, hr, hg⟩
  have q := q.call hr hg
  obtain ⟨c0, c1, c2, c3⟩ := q.bF.cells4
  have fr := q.bF.free
  have q := q.set 0 (.int .i64 (i64of (num 8 s).1))
  clear hg hr
  go_wp2_with fail
  refine (readSigned_any q.rd).mono ?_
  rintro e w2 ⟨rfl, hr, hg⟩
  have q := q.call hr hg
  clear c0 c1 c2 c3 fr
  obtain ⟨c0, c1, c2, c3⟩ := q.bF.cells4
  have fr := q.bF.free
  have q := q.set 1 (.int .i64 (i64of (num 8 (num 8 s).2).1))
  clear hg hr
  go_wp2_with fail
  refine (readSigned_any q.rd).mono ?_
  rintro e w3 ⟨rfl, hr, hg⟩
  have q := q.call hr hg
  clear c0 c1 c2 c3 fr
  obtain ⟨c0, c1, c2, c3⟩ := q.bF.cells4
  have fr := q.bF.free
  have q := q.set 2 (.int .i64 (i64of (num 8 (num 8 (num 8 s).2).2).1))
  clear hg hr
  go_wp2_with fail
  refine (readSigned_any q.rd).mono ?_
  rintro e w4 ⟨rfl, hr, hg⟩
  have q := q.call hr hg
  clear c0 c1 c2 c3 fr
  obtain ⟨c0, c1, c2, c3⟩ := q.bF.cells4
  have fr := q.bF.free
  have q := q.set 3 (.int .i64 (i64of (num 8 (num 8 (num 8 (num 8 s).2).2).2).1))
  clear c0 c1 c2
  obtain ⟨e0, e1, e2, e3⟩ := q.bF.cells4
  obtain ⟨ca, hca, bA⟩ := q.bA
  obtain ⟨a0, a1, a2, a3, rfl⟩ := arr4 hca
  obtain ⟨d0, d1, d2, d3⟩ := bA.cells4
  have fa := bA.free
  clear hg hr
  go_wp2
  have bx := bA.setAll (j := 0) (rPane s).1.cs
  have hrd := q.rd.setAll hR (j := 0) (rPane s).1.cs
  have hgr := grown_setAll (Nat.le_refl _) (j := 0) (rPane s).1.cs q.gr
  simp only [setAll, rPane, Pn.cs, Nat.reduceAdd] at bx hrd hgr
  obtain ⟨x0, x1, x2, x3⟩ := BoxT.cells4 bx
  exact bodyPost_ret (v := .agg (rPane s).1.cs.toArray) (by simp [results, Tryz.results140, go_sem, x0, x1, x2, x3, rPane, Pn.cs]) rfl ⟨rfl, hrd, hgr⟩

end Go.Proofs.YtbfhcbihgleddaaGreatDoor
/-
  Walks over package codec's readers of snapshots: the lists.
-/
namespace Go.Proofs.YtbfhcbihgleddaaGreatDoor
open Go.RowKit

/-- v is a slice of just the things xs, each of sz cells, at the head of a row of type t that lies from block base on. -/
def OwnL {α : Type} (t sz : Nat) (cs : α → List Value) (base : Nat) (w : World) (v : Value) (xs : List α) : Prop := w.ownsRow base t sz v xs.length (xs.flatMap cs)
section
variable {α : Type} {t sz : Nat} {cs : α → List Value} {base : Nat} {w w' : World} {v : Value} {xs : List α}
theorem OwnL.nil (t sz : Nat) (cs : α → List Value) (base : Nat) (w : World) : OwnL t sz cs base w (.slice none 0 0) [] := World.ownsRow_nil _ _ _ _
theorem OwnL.grown {R : Nat} (h : OwnL t sz cs base w v xs) (hg : w.grownBy w' (some R)) (hR : R < base) : OwnL t sz cs base w' v xs := by
  refine ⟨h.1, ?_⟩
  rcases h.2 with h | ⟨g, cap, cur, h1, h2, h3, h4⟩
  · exact .inl h
  · exact .inr ⟨g, cap, cur, h1, h2, by rw [hg.block g (Array.getElem?_eq_some_iff.1 h3).1 (by simp; omega)]; exact h3, h4⟩
theorem OwnL.alloc (h : OwnL t sz cs base w v xs) (o : Obj) : OwnL t sz cs base (w.alloc o) v xs := World.ownsRow.alloc h o
theorem OwnL.setBox {k b : Nat} {ca : Array Value} (h : OwnL t sz cs base w v xs) (hb : BoxT b w k ca) (ht : b ≠ t) (j : Nat) (u : Value) : OwnL t sz cs base (w.setCell ⟨k, j, none⟩ u) v xs := by
  refine ⟨h.1, ?_⟩
  rcases h.2 with h | ⟨g, cap, cur, h1, h2, h3, h4⟩
  · exact .inl h
  · refine .inr ⟨g, cap, cur, h1, h2, ?_, h4⟩
    rw [Below.heap_setCell w ⟨k, j, none⟩ u g]
    · exact h3
    · show g ≠ k
      intro e
      subst e
      unfold BoxT at hb
      rw [hb] at h3
      simp at h3
      exact ht h3.2
theorem OwnL.below (h : OwnL t sz cs base w v xs) (hb : Below w.heap.size w w') : OwnL t sz cs base w' v xs := by
  refine ⟨h.1, ?_⟩
  rcases h.2 with h | ⟨g, cap, cur, h1, h2, h3, h4⟩
  · exact .inl h
  · exact .inr ⟨g, cap, cur, h1, h2, by rw [hb.block g (Array.getElem?_eq_some_iff.1 h3).1]; exact h3, h4⟩
theorem OwnL.mono {base' : Nat} (h : OwnL t sz cs base w v xs) (hb : base' ≤ base) : OwnL t sz cs base' w v xs := by
  refine ⟨h.1, ?_⟩
  rcases h.2 with h | ⟨g, cap, cur, h1, h2, h3⟩
  · exact .inl h
  · exact .inr ⟨g, cap, cur, h1, by omega, h3⟩
theorem OwnL.rd {R : Nat} {s : List Nat × Bool} (h : RdS R w s) (ho : OwnL t sz cs base w v xs) (hg : w.grownBy w' v.ownBlock) (hR : R < base) : RdS R w' s :=
  h.keep fun i hi => hg.block i (by have := h.lt; omega) (fun e => by have := (World.ownsRow.lt ho i e.symm).1; omega)
theorem OwnL.grownBy {R : Nat} {w0 : World} (h : w0.grownBy w (some R)) (ho : OwnL t sz cs base w v xs) (hg : w.grownBy w' v.ownBlock) (hb : w0.heap.size ≤ base) : w0.grownBy w' (some R) :=
  ⟨hg.os.trans h.os, hg.tape.trans h.tape, hg.output.trans h.output, Nat.le_trans h.size hg.size, fun k hk hne => (hg.block k (Nat.lt_of_lt_of_le hk h.size) (fun e => by have := (World.ownsRow.lt ho k e.symm).1; omega)).trans (h.block k hk hne)⟩
theorem OwnL.shape (h : OwnL t sz cs base w v xs) : ∃ ao cap, v = .slice ao xs.length cap := by
  rcases h.2 with ⟨rfl, h0⟩ | ⟨g, cap, cur, rfl, _⟩
  · exact ⟨none, 0, by rw [h0]⟩
  · exact ⟨_, cap, rfl⟩
end
/-- append's law at such rows. -/
theorem app_ownL {α : Type} {t sl sz by_ : Nat} {z : Value} {cs : α → List Value} (hinfo : (Tryz.prog.info? t).map (fun i => (i.zero, i.size, i.bytes)) = some (some z, sz, by_)) (hund : Tryz.prog.underlying sl = some (.slice t)) (hz : z.cells.size = sz) (hsz : 0 < sz) (hby : by_ ≤ 100)
    (hcs : ∀ x, (cs x).length = sz) (h1c : ∀ x, ∀ u ∈ cs x, u.oneCell' = true)
    {w : World} {ops : Array Oper} {rest : List Oper} {o : Oper} {a : Act} {Q : Exit → Act → World → Prop} (hgd : o.guard = none) (s x : Operand)
    (ho : o.op = .call { callee := .builtin .append, args := #[s, x], argTypes := #[sl, sl] }) (base : Nat) (v : Value) (xs : List α) (hs : a.eval s = v) (hown : OwnL t sz cs base w v xs)
    (ad : Addr) (c : Nat) (y : α) (hx : a.eval x = .slice (some ad) 1 c) (hnews : ∀ j u, (cs y)[j]? = some u → w.cell? (ad.add j) = some u) (hl : xs.length ≤ 1000000) (hbase : base ≤ w.heap.size)
    (h : ∀ v' w', OwnL t sz cs base w' v' (xs ++ [y]) → w.grownBy w' v.ownBlock → wpList Tryz.prog ops Q rest (a.put o.dst v') w') : wpList Tryz.prog ops Q (o :: rest) a w := by
  obtain ⟨i0, hi, hz0, hz1, hz2⟩ := info_parts hinfo
  refine wpList_append_own w hgd s x sl ho base t i0 z sz by_ hund hi hz0 hz1 hz2 hz hsz v xs.length (xs.flatMap cs) hs hown ad 1 c (cs y) hx (by rw [hcs]; omega) hnews (h1c y) ?_ ?_ hbase ?_
  · unfold maxLen; omega
  · have : (xs.length + 1) * by_ ≤ 1000001 * 100 := Nat.mul_le_mul (by omega) hby
    omega
  · intro v' w' h1 h2 _
    refine h v' w' ?_ h2
    show w'.ownsRow base t sz v' (xs ++ [y]).length ((xs ++ [y]).flatMap cs)
    rw [List.length_append, List.flatMap_append]; simpa using h1
theorem Tryz.info2 : (Tryz.prog.info? 2).map (fun i => (i.zero, i.size, i.bytes)) = some (some (.int .i64 0), 1, 8) := by kernel_rfl
theorem Tryz.info145 : (Tryz.prog.info? 145).map (fun i => (i.zero, i.size, i.bytes)) = some (some (.agg #[.int .i64 0, .int .i64 0, .int .i64 0, .int .i64 0]), 4, 32) := by kernel_rfl
theorem Tryz.info151 : (Tryz.prog.info? 151).map (fun i => (i.zero, i.size, i.bytes)) = some (some (.agg #[.int .i64 0, .int .i64 0, .int .i64 0, .int .i64 0, .int .i64 0, .int .i64 0, .int .u64 0, .bool false]), 8, 64) := by kernel_rfl

/-- What readList reads by the reader rd: so many as it was told, till something is wrong. -/
def rL {α : Type} (rd : (List Nat × Bool) → α × (List Nat × Bool)) : Nat → (List Nat × Bool) → List α × (List Nat × Bool)
  | 0, s => ([], s)
  | n + 1, s => if s.2 then ([], s) else ((rd s).1 :: (rL rd n (rd s).2).1, (rL rd n (rd s).2).2)
theorem rL_bad {α : Type} (rd : (List Nat × Bool) → α × (List Nat × Bool)) (n : Nat) (l : List Nat) : rL rd n (l, true) = ([], (l, true)) := by cases n <;> rfl
theorem rL_len {α : Type} (rd : (List Nat × Bool) → α × (List Nat × Bool)) (n : Nat) : ∀ s, (rL rd n s).1.length ≤ n := by
  induction n with
  | zero => intro s; simp [rL]
  | succ n ih =>
    intro s
    unfold rL
    split
    · simp
    · simp only [List.length_cons]; have := ih (rd s).2; omega
/-- A list of at most most things. -/
def rList {α : Type} (rd : (List Nat × Bool) → α × (List Nat × Bool)) (most : Nat) (s : List Nat × Bool) : List α × (List Nat × Bool) :=
  if most < (num 2 s).1 then ([], ((num 2 s).2.1, true)) else rL rd (num 2 s).1 (num 2 s).2

set_option maxHeartbeats 2000000 in
set_option maxRecDepth 100000 in
theorem readListI_any {R : Nat} {w : World} {s : List Nat × Bool} (h : RdS R w s) :
    Calls Tryz.prog 138 #[.pointer (some ⟨R, 0, none⟩), .int .i64 65535, .func (.func 137) #[] #[]] w fun e w' => ∃ v, e = .returned v ∧ OwnL 2 1 ics w.heap.size w' v (rList (fun s => (i64of (num 8 s).1, (num 8 s).2)) 65535 s).1 ∧ RdS R w' (rList (fun s => (i64of (num 8 s).1, (num 8 s).2)) 65535 s).2 ∧ w.grownBy w' (some R) := by
  have hR := h.lt
  have hb0 := num_lt (k := 2) h.2
  have n0 := number_any (sz := 2) h (by omega) (by omega)
  rw [show (2 : Int).toNat = 2 from rfl] at n0
  unfold rList
  generalize num 2 s = p0 at *
  obtain ⟨n, s0⟩ := p0
  simp only at *
  have hn : n < 65536 := hb0
  rw [if_neg (by omega)]
  have hw : wrap64 (n : Int) = n := by unfold wrap64; omega
  have N0 := n0
  clear n0 hb0
  generalize hrd : (fun s : List Nat × Bool => (i64of (num 8 s).1, (num 8 s).2)) = rd
  have HRD : Hid ((fun s : List Nat × Bool => (i64of (num 8 s).1, (num 8 s).2)) = rd) := hrd
  generalize hrl : rL rd n s0 = rl
  have HRL : Hid (rL rd n s0 = rl) := hrl
  clear hrl hrd
  go_enter Tryz.func138, Tryz.ntmps138
  go_wp2_with fail
  refine N0.mono ?_
  rintro e w1 ⟨rfl, hr, hg⟩
  clear N0
  have HR1 : Hid (RdS R w1 s0) := hr
  clear hr
  go_wp2
  go_loopw [8, 9] (fun v i wr => ∃ (k : Nat) (sk : List Nat × Bool) (acc : List Int), k ≤ n ∧ i = .int .i64 k ∧ Hid (acc.length = k) ∧ Hid (RdS R wr sk) ∧ Hid (OwnL 2 1 ics w.heap.size wr v acc) ∧ Hid (w.grownBy wr (some R)) ∧ Hid (rl = (acc ++ (rL rd (n - k) sk).1, (rL rd (n - k) sk).2))) (fun _ i _ => n - (intOf i).toNat)
  case atStart => exact ⟨0, s0, [], Nat.zero_le _, rfl, rfl, HR1, OwnL.nil _ _ _ _ _, hg, by show rl = _; rw [← HRL.out]; rfl⟩
  case round =>
    obtain ⟨k, ⟨lk, bad⟩, acc, hk, rfl, HL, HRk, HO, HG, HE⟩ := hrel
    obtain ⟨ao, cap, r0, r1, rf⟩ := HRk.out.cells
    simp only at r0 r1
    clear r0
    by_cases hlt : k < n
    · cases bad
      · generalize hx : i64of (num 8 (lk, false)).1 = x
        have HX : Hid (i64of (num 8 (lk, false)).1 = x) := hx
        clear hx
        go_wp2_with fail
        refine (readSigned_any HRk.out).mono ?_
        rw [HX.out]
        rintro e w2 ⟨rfl, hr2, hg2⟩
        have ho2 := HO.out.grown hg2 hR
        have hG2 := grownBy_trans HG.out hg2
        have hz2 := hG2.size
        have HR2 : Hid (RdS R (w2.alloc (.cells #[.int .i64 x] 2)) (num 8 (lk, false)).2) := hr2.alloc _
        have HO2 : Hid (OwnL 2 1 ics w.heap.size (w2.alloc (.cells #[.int .i64 x] 2)) _ acc) := ho2.alloc _
        have HG3 : Hid (w.grownBy (w2.alloc (.cells #[.int .i64 x] 2)) (some R)) := grown_alloc hG2 _
        have hla : acc.length ≤ 1000000 := by have := HL.out; omega
        clear hr2 hg2 ho2 hG2
        go_wp2_with (first | (at_builtin; refine app_ownL Tryz.info2 Tryz.underlying23 rfl (by decide) (by decide) (fun _ => rfl) (fun y u hu => by simp [ics] at hu; subst hu; rfl) rfl _ _ rfl w.heap.size _ acc rfl HO2.out ⟨w2.heap.size, 0, none⟩ 1 x rfl (fun j u hu => by match j, hu with | 0, hu => simp [ics] at hu; subst hu; simp [Addr.add]) hla (by simp; omega) ?_) | fail)
        intro v3 w3 ho3 hg3
        have HO3 : Hid (OwnL 2 1 ics w.heap.size w3 v3 (acc ++ [x])) := ho3
        have HR3 : Hid (RdS R w3 (num 8 (lk, false)).2) := HO2.out.rd HR2.out hg3 hR
        have HG4 : Hid (w.grownBy w3 (some R)) := HO2.out.grownBy HG3.out hg3 (Nat.le_refl _)
        clear ho3 hg3 r1 rf
        go_wp2
        go_roundw
        case rel =>
          refine ⟨k + 1, (num 8 (lk, false)).2, acc ++ [x], by omega, by go_num, ?_, HR3, HO3, HG4, ?_⟩
          · show _ = _; rw [List.length_append, HL.out]; rfl
          · show rl = _
            rw [HE.out, show n - k = (n - (k + 1)) + 1 from by omega]
            have e1 : rd (lk, false) = (x, (num 8 (lk, false)).2) := by rw [← HRD.out, ← HX.out]
            simp [rL, e1]
        case measure => simp [intOf]; omega
      · go_wp2
        go_ret
        refine ⟨_, rfl, ?_, ?_, HG.out⟩
        · rw [HE.out, rL_bad]; simpa using HO.out
        · rw [HE.out, rL_bad]; exact HRk.out
    · go_wp2
      go_ret
      refine ⟨_, rfl, ?_, ?_, HG.out⟩
      · rw [HE.out, show n - k = 0 from by omega]; simpa [rL] using HO.out
      · rw [HE.out, show n - k = 0 from by omega]; exact HRk.out
end Go.Proofs.YtbfhcbihgleddaaGreatDoor
/-
  Walks over package codec's readers of snapshots: the lists of panes.
-/
namespace Go.Proofs.YtbfhcbihgleddaaGreatDoor
open Go.RowKit

set_option maxHeartbeats 2000000 in
set_option maxRecDepth 100000 in
theorem readListP_any {R : Nat} {w : World} {s : List Nat × Bool} (h : RdS R w s) :
    Calls Tryz.prog 139 #[.pointer (some ⟨R, 0, none⟩), .int .i64 4096, .func (.func 140) #[] #[]] w fun e w' => ∃ v, e = .returned v ∧ OwnL 145 4 Pn.cs w.heap.size w' v (rList rPane 4096 s).1 ∧ RdS R w' (rList rPane 4096 s).2 ∧ w.grownBy w' (some R) := by
  have hR := h.lt
  have hb0 := num_lt (k := 2) h.2
  have n0 := number_any (sz := 2) h (by omega) (by omega)
  rw [show (2 : Int).toNat = 2 from rfl] at n0
  unfold rList
  generalize num 2 s = p0 at *
  obtain ⟨n, s0⟩ := p0
  simp only at *
  have hn : n < 65536 := hb0
  have hw : wrap64 (n : Int) = n := by unfold wrap64; omega
  have N0 := n0
  clear n0 hb0
  by_cases hm : 4096 < n
  · rw [if_pos hm]
    go_enter Tryz.func139, Tryz.ntmps139
    go_wp2_with fail
    refine N0.mono ?_
    rintro e w1 ⟨rfl, hr, hg⟩
    clear N0
    obtain ⟨ao, cap, r0, r1, rf⟩ := hr.cells
    have hrb := hr.bad
    have hg := grownBy_trans hg (grownBy_set w1 R 1 (.bool true))
    obtain ⟨ao', cap', r0', r1', rf'⟩ := hrb.cells
    simp only at r1'
    clear hr r0 r0'
    go_wp2
    refine wp_loop_rounds 1 ?_
    rw [rounds_succ]
    go_wp2
    go_ret
    exact ⟨_, rfl, OwnL.nil _ _ _ _ _, hrb, hg⟩
  rw [if_neg hm]
  generalize hrl : rL rPane n s0 = rl
  have HRL : Hid (rL rPane n s0 = rl) := hrl
  clear hrl
  go_enter Tryz.func139, Tryz.ntmps139
  go_wp2_with fail
  refine N0.mono ?_
  rintro e w1 ⟨rfl, hr, hg⟩
  clear N0
  have HR1 : Hid (RdS R w1 s0) := hr
  clear hr
  go_wp2
  go_loopw [8, 9] (fun v i wr => ∃ (k : Nat) (sk : List Nat × Bool) (acc : List Pn), k ≤ n ∧ i = .int .i64 k ∧ Hid (acc.length = k) ∧ Hid (RdS R wr sk) ∧ Hid (OwnL 145 4 Pn.cs w.heap.size wr v acc) ∧ Hid (w.grownBy wr (some R)) ∧ Hid (rl = (acc ++ (rL rPane (n - k) sk).1, (rL rPane (n - k) sk).2))) (fun _ i _ => n - (intOf i).toNat)
  case atStart => exact ⟨0, s0, [], Nat.zero_le _, rfl, rfl, HR1, OwnL.nil _ _ _ _ _, hg, by show rl = _; rw [← HRL.out]; rfl⟩
  case round =>
    obtain ⟨k, ⟨lk, bad⟩, acc, hk, rfl, HL, HRk, HO, HG, HE⟩ := hrel
    obtain ⟨ao, cap, r0, r1, rf⟩ := HRk.out.cells
    simp only at r0 r1
    clear r0
    by_cases hlt : k < n
    · cases bad
      · generalize hx : rPane (lk, false) = px
        obtain ⟨x, sx⟩ := px
        have HX : Hid (rPane (lk, false) = (x, sx)) := hx
        clear hx
        go_wp2_with fail
        refine (readPane_any HRk.out).mono ?_
        rw [HX.out]
        rintro e w2 ⟨rfl, hr2, hg2⟩
        have ho2 := HO.out.grown hg2 hR
        have hG2 := grownBy_trans HG.out hg2
        have hz2 := hG2.size
        have HR2 : Hid (RdS R (w2.alloc (.cells #[.int .i64 x.ke, .int .i64 x.fr, .int .i64 x.to, .int .i64 x.ac] 145)) sx) := hr2.alloc _
        have HO2 : Hid (OwnL 145 4 Pn.cs w.heap.size (w2.alloc (.cells #[.int .i64 x.ke, .int .i64 x.fr, .int .i64 x.to, .int .i64 x.ac] 145)) _ acc) := ho2.alloc _
        have HG3 : Hid (w.grownBy (w2.alloc (.cells #[.int .i64 x.ke, .int .i64 x.fr, .int .i64 x.to, .int .i64 x.ac] 145)) (some R)) := grown_alloc hG2 _
        have hla : acc.length ≤ 1000000 := by have := HL.out; omega
        clear hr2 hg2 ho2 hG2
        simp only [Pn.cs]
        go_wp2_with (first | (at_builtin; refine app_ownL Tryz.info145 Tryz.underlying24 rfl (by decide) (by decide) (fun _ => rfl) (fun y u hu => by simp [Pn.cs] at hu; rcases hu with rfl | rfl | rfl | rfl <;> rfl) rfl _ _ rfl w.heap.size _ acc rfl HO2.out ⟨w2.heap.size, 0, none⟩ 1 x rfl (fun j u hu => by match j, hu with | 0, hu | 1, hu | 2, hu | 3, hu => simp [Pn.cs] at hu; subst hu; simp [Addr.add]) hla (by simp; omega) ?_) | fail)
        intro v3 w3 ho3 hg3
        have HO3 : Hid (OwnL 145 4 Pn.cs w.heap.size w3 v3 (acc ++ [x])) := ho3
        have HR3 : Hid (RdS R w3 sx) := HO2.out.rd HR2.out hg3 hR
        have HG4 : Hid (w.grownBy w3 (some R)) := HO2.out.grownBy HG3.out hg3 (Nat.le_refl _)
        clear ho3 hg3 r1 rf
        go_wp2
        go_roundw
        case rel =>
          refine ⟨k + 1, sx, acc ++ [x], by omega, by go_num, ?_, HR3, HO3, HG4, ?_⟩
          · show _ = _; rw [List.length_append, HL.out]; rfl
          · show rl = _
            rw [HE.out, show n - k = (n - (k + 1)) + 1 from by omega]
            simp [rL, HX.out]
        case measure => simp [intOf]; omega
      · go_wp2
        go_ret
        refine ⟨_, rfl, ?_, ?_, HG.out⟩
        · rw [HE.out, rL_bad]; simpa using HO.out
        · rw [HE.out, rL_bad]; exact HRk.out
    · go_wp2
      go_ret
      refine ⟨_, rfl, ?_, ?_, HG.out⟩
      · rw [HE.out, show n - k = 0 from by omega]; simpa [rL] using HO.out
      · rw [HE.out, show n - k = 0 from by omega]; exact HRk.out
end Go.Proofs.YtbfhcbihgleddaaGreatDoor
