/-
  Walks: Copy, alikeBoth; the statement DiskApart, walked.
-/
import Derived.Test.YtnokibjhkdaamaaDCuts
import Derived.Test.YtnokibjhkdaamaaDQuiet
namespace Go.Proofs.Ytnokibjhkdaamaa
open Go.RowKit Go.Maps Go.Shelf

theorem BoxT.stays {t : TypeId} {w w' : World} {i : Nat} {cs : Array Value} (h : BoxT t w i cs) (hb : Below w.heap.size w w') : BoxT t w' i cs := by
  have hl := h.lt
  unfold BoxT at *
  rw [hb.block i hl]; exact h
theorem clone_map {w : World} {b n : Nat} {D : DataW Unit} (h : w.ownsMap Try.prog 9 fileR b n D) :
    Calls Try.prog 40 #[.map (some b)] w fun e w' => e = .returned (.map (some w.heap.size)) ∧ w'.ownsMap Try.prog 9 fileR w.heap.size n D ∧ w'.ownsMap Try.prog 9 fileR b n D ∧ Below w.heap.size w w' :=
  AnyW.maps_Clone_owns Try.clone40 9 fileR b n D w h

set_option maxHeartbeats 2000000 in
set_option maxRecDepth 100000 in
theorem kCopy {w0 w : World} {k b n : Nat} {p : Pd} (h : St w0 w k b n p) :
    Calls Try.prog 12 #[.pointer (some ⟨k, 0, none⟩)] w fun e w' => ∃ k' b', e = .returned (.pointer (some ⟨k', 0, none⟩)) ∧ St w0 w' k' b' n p ∧ w.heap.size ≤ k' ∧ w.heap.size ≤ b' ∧ Below w.heap.size w w' := by
  obtain ⟨c0, c1, c2, c3⟩ := h.d.at_.box.cells4
  have hA := h.d.at_.alloc (.cells #[.map (some b), .int .i64 p.dk.used, .int .i64 p.dk.room, .int .i64 p.dk.left] 64)
  have bX := BoxT.new 64 w #[.map (some b), .int .i64 p.dk.used, .int .i64 p.dk.room, .int .i64 p.dk.left]
  have hB := (Below.refl w.heap.size w).alloc (Nat.le_refl _) (.cells #[.map (some b), .int .i64 p.dk.used, .int .i64 p.dk.room, .int .i64 p.dk.left] 64)
  have hcl := clone_map hA.map
  obtain ⟨d0, d1, d2, d3⟩ := hA.box.cells4
  have HX := hide (And.intro bX hB)
  have HH := hide h
  have hsz := World.size_alloc w (.cells #[.map (some b), .int .i64 p.dk.used, .int .i64 p.dk.room, .int .i64 p.dk.left] 64)
  clear hA bX hB h
  go_enter Try.func12, Try.ntmps12
  go_wp2_with fail
  refine hcl.mono ?_
  rintro e w2 ⟨rfl, hm, -, hb2⟩
  obtain ⟨bX, hB⟩ := HX.out
  have bX2 := bX.stays hb2
  have fr := bX2.free
  have hlt := bX2.lt
  obtain ⟨x0, x1, x2, x3⟩ := bX2.cells4
  have hB2 := hB.trans (hb2.mono hB.size)
  have hne : (w.alloc (.cells #[.map (some b), .int .i64 p.dk.used, .int .i64 p.dk.room, .int .i64 p.dk.left] 64)).heap.size ≠ w.heap.size := by rw [hsz]; omega
  have hfin : DiskAt (w2.setCell ⟨w.heap.size, 0, none⟩ (.map (some (w.alloc (.cells #[.map (some b), .int .i64 p.dk.used, .int .i64 p.dk.room, .int .i64 p.dk.left] 64)).heap.size))) w.heap.size (w.alloc (.cells #[.map (some b), .int .i64 p.dk.used, .int .i64 p.dk.room, .int .i64 p.dk.left] 64)).heap.size n p.dk :=
    ⟨bX2.set 0 _, hm.setCell (by exact hne) _, HH.out.d.at_.used, HH.out.d.at_.room, HH.out.d.at_.left⟩
  have hBf := hB2.setCell (p := ⟨w.heap.size, 0, none⟩) (Nat.le_refl _) (.map (some (w.alloc (.cells #[.map (some b), .int .i64 p.dk.used, .int .i64 p.dk.room, .int .i64 p.dk.left] 64)).heap.size))
  have HF := hide (And.intro hfin hBf)
  clear hfin hBf bX bX2 hB hB2 hb2 hm HX hcl
  go_wp2
  go_ret
  obtain ⟨h1, h2⟩ := HF.out
  rw [hsz] at h1 h2
  have := HH.out.since.size
  exact ⟨_, _, rfl, ⟨⟨h1, HH.out.d.ok⟩, ⟨by omega, by omega, HH.out.since.trans (h2.mono this)⟩⟩, Nat.le_refl _, by omega, h2⟩

theorem NSeg.below {w w' : World} {v : Value} {l : List (List UInt8)} (h : NSeg w.heap.size w v l) (hb : Below w.heap.size w w') : NSeg w'.heap.size w' v l := (LSeg.below h hb).mono hb.size
theorem NSeg.at {w : World} {ao : Option Addr} {cap n : Nat} {l : List (List UInt8)} (h : NSeg w.heap.size w (.slice ao n cap) l) {i : Nat} {s : List UInt8} (hs : l[i]? = some s) : ∃ g off, ao = some ⟨g, off, none⟩ ∧ w.cell? ⟨g, off + i, none⟩ = some (.string ⟨s.toArray⟩) := by
  obtain ⟨ao', cap', e, _, h4⟩ := h
  simp only [Value.slice.injEq] at e
  obtain ⟨rfl, -, rfl⟩ := e
  rcases h4 with h4 | ⟨g, off, rfl, _, h7⟩
  · subst h4; simp at hs
  · have := h7 i s hs 0 _ rfl
    rw [Nat.mul_one, Nat.add_zero] at this
    exact ⟨g, off, rfl, this⟩
theorem pList_len {p : Pd} {n : Nat} (h : Ok p n) : (pList p).length ≤ 1000000 := by
  unfold pList
  split
  · simp
  · rw [List.length_map]; exact Nat.le_trans h.len h.many
theorem pList_name {p : Pd} {n : Nat} (h : Ok p n) {s : List UInt8} (hs : s ∈ pList p) : s.length ≤ 32 := by
  unfold pList at hs
  split at hs
  · cases hs
  · obtain ⟨f, hf, rfl⟩ := List.mem_map.1 hs
    have := h.name f hf
    unfold okName at this
    simp at this
    omega

set_option maxHeartbeats 4000000 in
set_option maxRecDepth 100000 in
/-- Two disks that are the same are told to be. -/
theorem alikeBoth_p {w : World} {k1 b1 n1 k2 b2 n2 : Nat} {p : Pd} (h1 : PdAt w k1 b1 n1 p) (h2 : PdAt w k2 b2 n2 p) :
    Calls Try.prog 15 #[.pointer (some ⟨k1, 0, none⟩), .pointer (some ⟨k2, 0, none⟩)] w fun e w' => e = .returned (.bool true) ∧ Below w.heap.size w w' := by
  have HH := hide (And.intro h1 h2)
  have hl1 := List_any h1
  have hlen := pList_len h1.ok
  clear h1 h2
  go_enter Try.func15, Try.ntmps15
  go_wp2_with fail
  refine hl1.mono ?_
  rintro e wa ⟨va, rfl, na, -, ba⟩
  have HA := hide (And.intro na (And.intro ba (HH.out.2.below ba)))
  clear na ba hl1
  go_wp2_with fail
  refine (List_any HA.out.2.2).mono ?_
  rintro e wb ⟨vb, rfl, nb, -, bb⟩
  have HB : Hid (NSeg wb.heap.size wb va (pList p) ∧ NSeg wb.heap.size wb vb (pList p) ∧ Below w.heap.size w wb ∧ PdAt wb k1 b1 n1 p ∧ PdAt wb k2 b2 n2 p) :=
    ⟨HA.out.1.below bb, nb, HA.out.2.1.trans (bb.mono HA.out.2.1.size), (HH.out.1.below HA.out.2.1).below bb, HA.out.2.2.below bb⟩
  clear nb bb HA
  obtain ⟨a1, q1, rfl, -⟩ := HB.out.1
  obtain ⟨a2, q2, rfl, -⟩ := HB.out.2.1
  go_wp2_with fail
  refine (Used_p HB.out.2.2.2.1).mono ?_
  rintro e w3 ⟨rfl, rfl⟩
  go_wp2_with fail
  refine (Used_p HB.out.2.2.2.2).mono ?_
  rintro e w4 ⟨rfl, rfl⟩
  go_wp2_with fail
  refine (Dead_p HB.out.2.2.2.1).mono ?_
  rintro e w5 ⟨rfl, rfl⟩
  go_wp2_with fail
  refine (Dead_p HB.out.2.2.2.2).mono ?_
  rintro e w6 ⟨rfl, rfl⟩
  have hdd : ((p.left == 0) != (p.left == 0)) = false := by simp
  generalize (p.left == 0) = dd at *
  go_wp2_with fail
  go_loopw [7] (fun iv wr => ∃ i : Nat, i ≤ (pList p).length ∧ iv = .int .i64 i ∧ Hid (Below w6.heap.size w6 wr)) (fun iv _ => (pList p).length - (intOf iv).toNat)
  case atStart => exact ⟨0, Nat.zero_le _, rfl, Below.refl _ _⟩
  case round =>
    obtain ⟨i, hi, rfl, HI⟩ := hrel
    by_cases hlt : i < (pList p).length
    · obtain ⟨s, hs⟩ : ∃ s, (pList p)[i]? = some s := ⟨_, List.getElem?_eq_getElem hlt⟩
      have hsl := pList_name HB.out.2.2.2.1.ok (List.mem_of_getElem? hs)
      have hss : (⟨s.toArray⟩ : ByteArray).size ≤ maxLen := by
        show s.toArray.size ≤ maxLen
        unfold maxLen; simp; omega
      obtain ⟨g1, o1, rfl, c1⟩ := (HB.out.1.below HI.out).at hs
      obtain ⟨g2, o2, rfl, c2⟩ := (HB.out.2.1.below HI.out).at hs
      have hr1 := Read_p (HB.out.2.2.2.1.below HI.out) ⟨s.toArray⟩ hss
      have hr2 : ∀ W, Hid (Below wr.heap.size wr W) → Calls Try.prog 27 #[.pointer (some ⟨k2, 0, none⟩), .string ⟨s.toArray⟩] W (RdPost W (pFind p (nm ⟨s.toArray⟩)).2 (fData (pFind p (nm ⟨s.toArray⟩)).1)) := fun W hW => Read_p ((HB.out.2.2.2.2.below HI.out).below hW.out) ⟨s.toArray⟩ hss
      have HS := hide hs
      have HS1 := hide (And.intro ((HB.out.1.below HI.out)) (HB.out.2.1.below HI.out))
      generalize pFind p (nm ⟨s.toArray⟩) = fo at *
      obtain ⟨o, er⟩ := fo
      dsimp only at hr1 hr2
      have HR2 := hide hr2
      clear hr2 hs
      go_wp2_with fail
      refine hr1.mono ?_
      rintro e w7 ⟨v7, rfl, g7, b7⟩
      have H7 : Hid (Seg w7 v7 (fData o) ∧ Below wr.heap.size wr w7) := ⟨g7, b7⟩
      obtain ⟨_, _, e1, c1⟩ := (HS1.out.1.below b7).at HS.out
      cases e1
      obtain ⟨_, _, e2, c2⟩ := (HS1.out.2.below b7).at HS.out
      cases e2
      clear g7 b7 hr1
      go_wp2_with fail
      refine (HR2.out w7 H7.out.2).mono ?_
      rintro e w8 ⟨v8, rfl, g8, b8⟩
      have hb8 := H7.out.2.trans (b8.mono H7.out.2.size)
      have H8 : Hid (Seg w8 v7 (fData o) ∧ Seg w8 v8 (fData o) ∧ Below wr.heap.size wr w8) := ⟨H7.out.1.below b8, g8, hb8⟩
      obtain ⟨_, _, e1, c1⟩ := (HS1.out.1.below hb8).at HS.out
      cases e1
      obtain ⟨_, _, e2, c2⟩ := (HS1.out.2.below hb8).at HS.out
      cases e2
      have HC := fun n => Bytesq_any v7 v8 (fData o) (fData o) (w8.drewN n) (H8.out.1.drewN n) (H8.out.2.1.drewN n)
      have hdq : decide (fData o = fData o) = true := by simp
      rw [hdq] at HC
      clear g8 b8 hb8 H7 HR2 hdq
      have her : (er != er) = false := by simp
      go_wp2_with fail
      go_quiet (first | (go_at_call 29; exact Calls.quiet_of (HC _)))
      clear HC
      go_wp2
      go_roundw
      case rel => exact ⟨i + 1, by omega, by go_num, HI.out.trans ((below_drewN' H8.out.2.2 nq).mono HI.out.size)⟩
      case measure => simp [intOf]; omega
    · have hie : i = (pList p).length := by omega
      subst hie
      go_wp2
      go_ret
      exact ⟨rfl, HB.out.2.2.1.trans (HI.out.mono HB.out.2.2.1.size)⟩
/-- Two disks lie apart. -/
structure Away (k b k' b' : Nat) : Prop where
  n1 : k ≠ k'
  n2 : k ≠ b'
  n3 : b ≠ k'
  n4 : b ≠ b'
theorem Away.symm {k b k' b' : Nat} (h : Away k b k' b') : Away k' b' k b := ⟨h.n1.symm, h.n3.symm, h.n2.symm, h.n4.symm⟩
theorem St.beside {w0 w w' : World} {k b n k' b' n' : Nat} {p p' : Pd} (h : St w0 w k b n p) (ht : Turned k' b' w w') (h' : St w0 w' k' b' n' p') (hs : Away k b k' b') : St w0 w' k b n p := h.other ht h' hs.n1 hs.n2 hs.n3 hs.n4
theorem St.sep {w0 w : World} {k b n k' b' : Nat} {p : Pd} (h : St w0 w k b n p) (h1 : w.heap.size ≤ k') (h2 : w.heap.size ≤ b') : Away k b k' b' := by
  have := h.d.at_.box.lt
  have := h.d.at_.map.lt
  exact ⟨by omega, by omega, by omega, by omega⟩
theorem nil_iseg {k b : Nat} {w : World} : Hid (∀ w', Turned k b w w' → ISeg w' (.slice none 0 0) []) := fun _ _ => ⟨none, 0, rfl, by simp, .inl rfl⟩

set_option maxHeartbeats 4000000 in
set_option maxRecDepth 100000 in
theorem DiskApart_walk (w : World) (room : Int) (hroom : (Lit.int .i64 room).wf = true) (ao : Option Addr) (cap : Nat) (xs : List Stp) (hs : Hid (Scr w (.slice ao xs.length cap) xs)) (ao' : Option Addr) (cap' : Nat) (ys : List Stp) (hs' : Hid (Scr w (.slice ao' ys.length cap') ys)) :
    Calls Try.prog 3 #[.int .i64 room, .slice ao xs.length cap, .slice ao' ys.length cap'] w fun e w' => e = .returned (.bool true) ∧ Below w.heap.size w w' := by
  have hknown := known_any w
  go_enter Try.func3, Try.ntmps3
  go_wp2_with fail
  refine hknown.mono ?_
  rintro e w1 ⟨rfl, hb1⟩
  clear hknown
  have hli := light_any w.heap.size w1 ao cap xs (hs.out.s.below hb1) hs.out.wt
  have HB1 := hide hb1
  clear hb1
  go_wp2_with fail
  refine hli.mono ?_
  rintro e w2 ⟨rfl, q, rfl⟩
  clear hli
  by_cases hlight : xs.length ≤ 300 ∧ tot xs ≤ 50000
  rotate_left
  · have e0 : decide (xs.length ≤ 300 ∧ tot xs ≤ 50000) = false := decide_eq_false hlight
    rw [e0]
    clear hlight
    go_wp2
    go_ret
    exact ⟨rfl, below_drewN' HB1.out q⟩
  have e0 : decide (xs.length ≤ 300 ∧ tot xs ≤ 50000) = true := decide_eq_true hlight
  rw [e0]
  obtain ⟨hl3, htt⟩ := hlight
  clear e0
  have HB2 := hide (below_drewN' HB1.out q)
  generalize w1.drewN q = w2 at *
  clear HB1
  have hli := light_any w.heap.size w2 ao' cap' ys (hs'.out.s.below HB2.out) hs'.out.wt
  go_wp2_with fail
  refine hli.mono ?_
  rintro e w3 ⟨rfl, q', rfl⟩
  clear hli
  by_cases hlight : ys.length ≤ 300 ∧ tot ys ≤ 50000
  rotate_left
  · have e0 : decide (ys.length ≤ 300 ∧ tot ys ≤ 50000) = false := decide_eq_false hlight
    rw [e0]
    clear hlight
    go_wp2
    go_ret
    exact ⟨rfl, below_drewN' HB2.out q'⟩
  have e0 : decide (ys.length ≤ 300 ∧ tot ys ≤ 50000) = true := decide_eq_true hlight
  rw [e0]
  obtain ⟨hl3', htt'⟩ := hlight
  clear e0
  have HB3 := hide (below_drewN' HB2.out q')
  generalize w2.drewN q' = w3 at *
  clear HB2
  go_wp2_with fail
  refine (kNew w w3 HB3.out room hroom).mono ?_
  rintro e w4 ⟨ka, ba, rfl, h4, -, -, -⟩
  have HA4 := hide h4
  clear h4 HB3
  generalize hp0 : (⟨[], max room 0, -1⟩ : Pd) = p0 at HA4
  have HP0 := hide hp0
  clear hp0
  go_wp2_with fail
  refine (kNew w w4 HA4.out.since room hroom).mono ?_
  rintro e w5 ⟨kb, bb, rfl, h5, g1, g2, b5⟩
  rw [HP0.out] at h5
  have HS1 := hide (HA4.out.sep g1 g2)
  have HA5 := hide (HA4.out.below b5)
  have HB5 := hide h5
  clear h5 b5 g1 g2 HA4
  go_wp2_with fail
  refine (play_p HA5.out ao cap xs hs hl3 htt (by omega)).mono ?_
  rintro e w6 ⟨rfl, h6, t6⟩
  have HA6 := hide h6
  have HB6 := hide (HB5.out.beside t6 h6 HS1.out.symm)
  clear h6 t6 HA5 HB5
  go_wp2_with fail
  refine (play_p HB6.out ao cap xs hs hl3 htt (by omega)).mono ?_
  rintro e w7 ⟨rfl, h7, t7⟩
  have HB7 := hide h7
  have HA7 := hide (HA6.out.beside t7 h7 HS1.out)
  clear h7 t7 HA6 HB6
  go_wp2_with fail
  refine (kCopy HA7.out).mono ?_
  rintro e w8 ⟨kc, bc, rfl, h8, g1, g2, b8⟩
  have HS2 := hide (And.intro (HA7.out.sep g1 g2) (HB7.out.sep g1 g2))
  have HA8 := hide (HA7.out.below b8)
  have HB8 := hide (HB7.out.below b8)
  have HC8 := hide h8
  clear h8 b8 g1 g2 HA7 HB7
  generalize hpx : (pPlay p0 xs).1 = px at HA8 HB8 HC8
  have HPX := hide hpx
  clear hpx
  go_wp2_with fail
  refine (play_p HC8.out ao' cap' ys hs' hl3' htt' (by omega)).mono ?_
  rintro e w9 ⟨rfl, h9, t9⟩
  have HC9 := hide h9
  have HA9 := hide (HA8.out.beside t9 h9 HS2.out.1)
  have HB9 := hide (HB8.out.beside t9 h9 HS2.out.2)
  clear h9 t9 HA8 HB8 HC8
  go_wp2_with fail
  refine (play_p HB9.out ao' cap' ys hs' hl3' htt' (by omega)).mono ?_
  rintro e w10 ⟨rfl, h10, t10⟩
  have HB10 := hide h10
  have HA10 := hide (HA9.out.beside t10 h10 HS1.out)
  have HC10 := hide (HC9.out.beside t10 h10 HS2.out.2.symm)
  clear h10 t10 HA9 HB9 HC9
  generalize pPlay px ys = pq at *
  obtain ⟨py, cnt⟩ := pq
  dsimp only at *
  go_wp2_with fail
  refine (kUsed HC10.out).mono ?_
  rintro e w11 ⟨rfl, rfl⟩
  go_wp2_with fail
  refine (kUsed HB10.out).mono ?_
  rintro e w12 ⟨rfl, rfl⟩
  go_wp2_with fail
  refine (kCrash HC10.out _ [] nil_iseg _ rfl).mono ?_
  rintro e w13 ⟨rfl, h13, t13⟩
  have HC13 := hide h13
  have HA13 := hide (HA10.out.beside t13 h13 HS2.out.1)
  have HB13 := hide (HB10.out.beside t13 h13 HS2.out.2)
  clear h13 t13 HA10 HB10 HC10
  go_wp2_with fail
  refine (kCrash HB13.out _ [] nil_iseg _ rfl).mono ?_
  rintro e w14 ⟨rfl, h14, t14⟩
  have HB14 := hide h14
  have HA14 := hide (HA13.out.beside t14 h14 HS1.out)
  have HC14 := hide (HC13.out.beside t14 h14 HS2.out.2.symm)
  clear h14 t14 HA13 HB13 HC13
  generalize pCrash py [] = pz at *
  go_wp2_with fail
  refine (kNew w w14 HA14.out.since room hroom).mono ?_
  rintro e w15 ⟨kd, bd, rfl, h15, g1, g2, b15⟩
  rw [HP0.out] at h15
  have HS3 := hide (And.intro (HA14.out.sep g1 g2) (And.intro (HB14.out.sep g1 g2) (HC14.out.sep g1 g2)))
  have HA15 := hide (HA14.out.below b15)
  have HB15 := hide (HB14.out.below b15)
  have HC15 := hide (HC14.out.below b15)
  have HD15 := hide h15
  clear h15 b15 g1 g2 HA14 HB14 HC14
  go_wp2_with fail
  refine (play_p HD15.out ao cap xs hs hl3 htt (by omega)).mono ?_
  rintro e w16 ⟨rfl, h16, t16⟩
  rw [HPX.out] at h16
  have HD16 := hide h16
  have HA16 := hide (HA15.out.beside t16 h16 HS3.out.1)
  have HB16 := hide (HB15.out.beside t16 h16 HS3.out.2.1)
  have HC16 := hide (HC15.out.beside t16 h16 HS3.out.2.2)
  clear h16 t16 HA15 HB15 HC15 HD15
  go_wp2_with fail
  refine (alikeBoth_p HC16.out.d HB16.out.d).mono ?_
  rintro e w17 ⟨rfl, b17⟩
  have HA17 := hide (HA16.out.below b17)
  have HD17 := hide (HD16.out.below b17)
  clear b17 HA16 HB16 HC16 HD16
  go_wp2_with fail
  refine (alikeBoth_p HA17.out.d HD17.out.d).mono ?_
  rintro e w18 ⟨rfl, b18⟩
  have HE := hide ((HA17.out.below b18).since)
  clear b18 HA17 HD17
  go_wp2
  go_ret
  exact ⟨rfl, HE.out⟩
end Go.Proofs.Ytnokibjhkdaamaa
