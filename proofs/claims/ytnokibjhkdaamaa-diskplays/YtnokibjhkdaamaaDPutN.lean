/-
  Walks: put and Write of the document's disk, once more: what they lay lies in new blocks.
-/
import Derived.Test.YtnokibjhkdaamaaDRefWrite
namespace Go.Proofs.Ytnokibjhkdaamaa
open Go.RowKit Go.Maps Go.Shelf

theorem put_mem {rs : List Rf} {r z : Rf} {i j : Nat} (hz : z ∈ rs.take i ++ [r] ++ rs.drop j) : z = r ∨ z ∈ rs := by
  rcases List.mem_append.1 hz with hz | hz
  · rcases List.mem_append.1 hz with hz | hz
    · exact .inr (List.mem_of_mem_take hz)
    · exact .inl (by simpa using hz)
  · exact .inr (List.mem_of_mem_drop hz)
/-- Nothing of the document's disk lies in block g. -/
structure Off (g : Nat) (rs : List Rf) (vl : Value) : Prop where
  data : ∀ r ∈ rs, r.f.x ≠ [] → ∀ a, r.a = some a → a.block ≠ g
  row : rs ≠ [] → ∀ a n c, vl = .slice (some a) n c → a.block ≠ g
theorem Off.put {g : Nat} {rs rs' : List Rf} {vl vl' : Value} {f : Fi} {a : Option Addr} {c n B B' : Nat} (h : Off g rs vl) (hz : ∀ z ∈ rs', z = ⟨f, a, c⟩ ∨ z ∈ rs) (hn : NewSl B (.slice a n c)) (hv : NewSl B' vl') (h1 : g < B) (h2 : g < B') : Off g rs' vl' := by
  refine ⟨fun r hr hne x hx => ?_, fun _ x n c e => by have := hv x n c e; omega⟩
  rcases hz r hr with rfl | hr
  · dsimp only at hx
    subst hx
    have := hn x n c rfl
    omega
  · exact h.data r hr hne x hx
def RefPostN (w : World) (R : Nat) (rs : List Rf) (vl : Value) (q : Pd × Int) (e : Ending) (w' : World) : Prop := e = .returned (.int .i64 q.2) ∧ (∃ rs' vl', RAt w' R q.1 rs' vl' ∧ ∀ g, g < w.heap.size → Off g rs vl → Off g rs' vl') ∧ TurnedR R w w'

set_option maxHeartbeats 4000000 in
set_option maxRecDepth 100000 in
theorem rPutN {w : World} {R : Nat} {p : Pd} {rs : List Rf} {ao : Option Addr} {cap : Nat} (h : RAt w R p rs (.slice ao rs.length cap)) (hl : rs.length ≤ 1000000) (hcap : rs.length ≤ cap ∧ cap ≤ 9223372036854775807) (hr : Rise p.l) (r : Rf) (hrd : Seg w (.slice r.a r.f.x.length r.c) r.f.x) :
    Calls Try.prog 49 #[.pointer (some ⟨R, 0, none⟩), .agg #[.string ⟨r.f.n.toArray⟩, .slice r.a r.f.x.length r.c, .int .i64 (r.f.s : Nat)]] w fun e w' => e = .returned (.tuple #[]) ∧ (∃ rs' vl', RAt w' R { p with l := fPut r.f p.l } rs' vl' ∧ (∀ z ∈ rs', z = r ∨ z ∈ rs) ∧ NewSl w.heap.size vl') ∧ TurnedR R w w' := by
  have hb0 := (Below.refl w.heap.size w).alloc (Nat.le_refl _) (.cells #[.string ⟨r.f.n.toArray⟩, .slice r.a r.f.x.length r.c, .int .i64 (r.f.s : Nat)] 76)
  have bq := BoxT.new 76 w #[.string ⟨r.f.n.toArray⟩, .slice r.a r.f.x.length r.c, .int .i64 (r.f.s : Nat)]
  have h1 := h.below hb0
  have hat := rAt h1 hl ⟨r.f.n.toArray⟩
  rw [nm_ba] at hat
  have HP := hide (fPut_pos r.f hr)
  have HH := hide (And.intro h1 (And.intro bq (And.intro hb0 hrd)))
  have hple := pos_le r.f.n p.l
  rw [← h.len] at hple
  have hisl : isAt r.f.n p.l = true → pos r.f.n p.l < rs.length := fun e => by
    obtain ⟨f, hf, _⟩ := isAt_get e
    rw [h.len]
    exact (List.getElem?_eq_some_iff.1 hf).1
  clear h h1 hb0 bq
  generalize pos r.f.n p.l = i at *
  generalize isAt r.f.n p.l = is at *
  have HIS := hide hisl
  clear hisl
  go_enter Try.func49, Try.ntmps49
  go_wp2_with fail
  generalize w.alloc (.cells #[.string ⟨r.f.n.toArray⟩, .slice r.a r.f.x.length r.c, .int .i64 (r.f.s : Nat)] 76) = W at *
  refine hat.mono ?_
  rintro e w1 ⟨rfl, q, rfl⟩
  clear hat
  obtain ⟨h1, bq, hb0, hsg⟩ := HH.out
  have hbq : Below w.heap.size w (W.drewN q) := below_drewN' hb0 q
  have h2 : RAt (W.drewN q) R p rs (.slice ao rs.length cap) := h1.below (below_drewN' (Below.refl _ _) q)
  have bq2 : BoxT 76 (W.drewN q) w.heap.size #[.string ⟨r.f.n.toArray⟩, .slice r.a r.f.x.length r.c, .int .i64 (r.f.s : Nat)] := bq
  have hq2 : w.heap.size < (W.drewN q).heap.size := bq2.lt
  generalize W.drewN q = W1 at *
  obtain ⟨c0, c1, c2⟩ := h2.box.cells3
  obtain ⟨d0, d1, d2⟩ := bq2.cells3
  have HROW : Hid (RowR W1.drew (.slice ao i cap) (rs.take i)) := RowR.first h2.row i hple cap
  have hic : i ≤ cap := by omega
  have hRl := h2.box.lt
  have e0 : ∀ o, (W1.alloc o).cell? ⟨R, 0, none⟩ = some (.slice ao rs.length cap) := fun o => (((Below.refl W1.heap.size W1).alloc (Nat.le_refl _) o).cell (p := ⟨R, 0, none⟩) hRl).trans c0
  have HBQ : Hid (BoxT 76 W1.drew w.heap.size #[.string ⟨r.f.n.toArray⟩, .slice r.a r.f.x.length r.c, .int .i64 (r.f.s : Nat)]) := bq2
  have H2 := hide (And.intro h2 (And.intro hbq hsg))
  clear h1 bq hb0 hsg h2 bq2 hbq HH
  go_wp2_with fail
  go_region_law (first
    | (refine stepR rfl _ _ rfl rfl rfl (OwnR.nil W1.heap.size _) HROW.out (by simp; omega) (Nat.le_refl _) ?_; intro v3 w3 o3 g3; obtain ⟨x0, x1, x2⟩ := (HBQ.out.keeps (below_none g3)).cells3; have B3 : Hid (Below W1.heap.size W1 w3) := own_b ((Below.refl _ _).drew) (OwnR.nil _ _) g3 (Nat.le_refl _))
    | (refine stepR rfl _ _ rfl rfl rfl (OwnR.nil W1.heap.size _) (RowR.alloc (w := W1) HROW.out (.cells #[.string ⟨r.f.n.toArray⟩, .slice r.a r.f.x.length r.c, .int .i64 (r.f.s : Nat)] 76)) (by simp; omega) (by simp) ?_; intro v3 w3 o3 g3; have B3 : Hid (Below W1.heap.size W1 w3) := own_b (((Below.refl _ _).alloc (Nat.le_refl _) _).drew) (OwnR.nil _ _) g3 (by simp))
    | (refine stepR rfl _ _ rfl rfl rfl (o3.alloc _) (lit_row w3 r) (by simp; omega) (by have := g3.size; simp at this ⊢; omega) ?_; intro v4 w4 o4 g4; have B4 : Hid (Below W1.heap.size W1 w4) := own_b (B3.out.alloc B3.out.size _) (o3.alloc _) g4 (by have := B3.out.size; simp; omega))
    | (refine stepR rfl _ _ rfl rfl rfl o3 (RowR.below (w := (W1.alloc (.cells #[.string ⟨r.f.n.toArray⟩, .slice r.a r.f.x.length r.c, .int .i64 (r.f.s : Nat)] 76)).drew) (lit_row W1 r) (below_none g3)) (by simp; omega) (by have := g3.size; simp at this ⊢; omega) ?_; intro v4 w4 o4 g4; have B4 : Hid (Below W1.heap.size W1 w4) := own_b B3.out o3 g4 B3.out.size))
  all_goals
    rw [List.nil_append] at o4
    have O4 := hide o4
    clear o3 g3 g4 o4 B3 HROW e0 HBQ
    try clear x0 x1 x2
    obtain ⟨h2, hbq, hsg⟩ := H2.out
    have h4 := h2.below B4.out
    obtain ⟨c0, c1, c2⟩ := h4.box.cells3
    have f0 := h4.box.free 0
    have H4 := hide h4
    clear h2 hbq hsg h4
    have hisl := HIS.out
    have HPX := HP
    clear HP HIS
    cases is
    · obtain ⟨vs, hsl, hrw⟩ := slice_row (ao := ao) (cap := cap) rs i hple hcap.1
      have HPL : Hid (fPut r.f p.l = p.l.take i ++ r.f :: p.l.drop i) := HPX.out
      have HRW := hide (hrw w4 H4.out.row)
      clear hrw HPX hisl
      go_wp2_with (first | (at_builtin; refine appR rfl _ _ rfl rfl rfl O4.out HRW.out (by simp; omega) B4.out.size ?_; intro v5 w5 o5 g5; have B5 : Hid (Below W1.heap.size W1 w5) := own_b B4.out O4.out g5 B4.out.size; obtain ⟨y0, y1, y2⟩ := (H2.out.1.below B5.out).box.cells3; have fy := (H2.out.1.below B5.out).box.free 0; obtain ⟨a5, n5, c5, hn5, rfl⟩ := o5.form) | fail)
      go_end0
      obtain ⟨h2, hbq, hsg⟩ := H2.out
      have hd5 : ∀ z ∈ rs.take i ++ [r] ++ rs.drop (i), Seg w5 (.slice z.a z.f.x.length z.c) z.f.x := fun z hz => by
        rcases List.mem_append.1 hz with hz | hz
        · rcases List.mem_append.1 hz with hz | hz
          · exact (h2.data z (List.mem_of_mem_take hz)).below B5.out
          · obtain rfl : z = r := by simpa using hz
            exact hsg.below (hbq.trans (B5.out.mono hbq.size))
        · exact (h2.data z (List.mem_of_mem_drop hz)).below B5.out
      obtain ⟨g1, g2⟩ := h2.newList B5.out o5 (by simp; omega) hd5 (fPut r.f p.l) ((put_list h2.eq r i (i)).trans HPL.out.symm)
      exact ⟨rfl, ⟨_, _, g1, fun z hz => put_mem hz, fun a m c e => Nat.le_trans hbq.size (NewSl.of_row o5 a m c e)⟩, (Turned.below hbq).trans g2⟩
    · obtain ⟨vs, hsl0, hrw⟩ := slice_row (ao := ao) (cap := cap) rs (i + 1) (hisl rfl) hcap.1
      have hsl : ∀ W, (Instr.sliceAt 69 (.slice ao rs.length cap) (some (.int .i64 ((i : Int) + 1))) none none).run Try.prog W = .ok vs W := fun W => by have := hsl0 W; rw [Int.natCast_add] at this; exact this
      have HPL : Hid (fPut r.f p.l = p.l.take i ++ r.f :: p.l.drop (i + 1)) := HPX.out
      have hw1 : wrap64 ((i : Int) + 1) = (i : Int) + 1 := by unfold wrap64; omega
      clear hsl0
      have HRW := hide (hrw w4 H4.out.row)
      clear hrw HPX hisl
      go_wp2_with (first | (at_builtin; refine appR rfl _ _ rfl rfl rfl O4.out HRW.out (by simp; omega) B4.out.size ?_; intro v5 w5 o5 g5; have B5 : Hid (Below W1.heap.size W1 w5) := own_b B4.out O4.out g5 B4.out.size; obtain ⟨y0, y1, y2⟩ := (H2.out.1.below B5.out).box.cells3; have fy := (H2.out.1.below B5.out).box.free 0; obtain ⟨a5, n5, c5, hn5, rfl⟩ := o5.form) | fail)
      go_end0
      obtain ⟨h2, hbq, hsg⟩ := H2.out
      have hd5 : ∀ z ∈ rs.take i ++ [r] ++ rs.drop (i + 1), Seg w5 (.slice z.a z.f.x.length z.c) z.f.x := fun z hz => by
        rcases List.mem_append.1 hz with hz | hz
        · rcases List.mem_append.1 hz with hz | hz
          · exact (h2.data z (List.mem_of_mem_take hz)).below B5.out
          · obtain rfl : z = r := by simpa using hz
            exact hsg.below (hbq.trans (B5.out.mono hbq.size))
        · exact (h2.data z (List.mem_of_mem_drop hz)).below B5.out
      obtain ⟨g1, g2⟩ := h2.newList B5.out o5 (by simp; omega) hd5 (fPut r.f p.l) ((put_list h2.eq r i (i + 1)).trans HPL.out.symm)
      exact ⟨rfl, ⟨_, _, g1, fun z hz => put_mem hz, fun a m c e => Nat.le_trans hbq.size (NewSl.of_row o5 a m c e)⟩, (Turned.below hbq).trans g2⟩

theorem rPutN' {w : World} {R n : Nat} {p : Pd} {rs : List Rf} {vl : Value} (h : RAt w R p rs vl) (hl : rs.length ≤ 1000000) (hr : Rise p.l) (s : ByteArray) (x : List Nat) (m : Nat) (a : Option Addr) (c : Nat) (hrd : Seg w (.slice a x.length c) x) (hn : n = x.length) :
    Calls Try.prog 49 #[.pointer (some ⟨R, 0, none⟩), .agg #[.string s, .slice a n c, .int .i64 (m : Nat)]] w fun e w' => e = .returned (.tuple #[]) ∧ (∃ rs' vl', RAt w' R { p with l := fPut ⟨nm s, x, m⟩ p.l } rs' vl' ∧ (∀ z ∈ rs', z = ⟨⟨nm s, x, m⟩, a, c⟩ ∨ z ∈ rs) ∧ NewSl w.heap.size vl') ∧ TurnedR R w w' := by
  obtain ⟨ao, cap, rfl, hc1, hc2⟩ := h.cap
  have := rPutN h hl ⟨hc1, hc2⟩ hr ⟨⟨nm s, x, m⟩, a, c⟩ hrd
  dsimp only at this
  rw [ba_nm] at this
  rw [hn]
  exact this

theorem bytes_madeN {w w' : World} {v : Value} {l : List Nat} (ho : Own w.heap.size w' v ([] ++ l)) (hk : Kept w.heap.size w w') (hl : l.length ≤ 140737488355328) :
    ∃ a c n, Hid (n = l.length) ∧ Hid (Seg w' (.slice a l.length c) l) ∧ Hid (Below w.heap.size w w') ∧ Hid (NewSl w.heap.size v) ∧ v = .slice a n c := by
  rw [List.nil_append] at ho
  have hs := ho.seg hl
  have hnw := hide (NewSl.of_row ho)
  obtain ⟨a, c, rfl, h⟩ := hs
  exact ⟨a, c, _, rfl, ⟨a, c, rfl, h⟩, hk.below (Nat.le_refl _), hnw, rfl⟩
set_option maxHeartbeats 4000000 in
set_option maxRecDepth 100000 in
theorem rWriteN {w : World} {R n : Nat} {p : Pd} {rs : List Rf} {vl : Value} (h : RAt w R p rs vl) (hok : Ok p n) (hlf : (Lit.int .i64 p.left).wf = true) (s : ByteArray) (ab : Option Addr) (cb : Nat) (l : List Nat) (hsg : Seg w (.slice ab l.length cb) l) (hl5 : l.length ≤ 50000) :
    Calls Try.prog 19 #[.pointer (some ⟨R, 0, none⟩), .string s, .slice ab l.length cb] w (RefPostN w R rs vl (pWrite p (nm s) l)) := by
  obtain ⟨ao, cap, rfl, hc1, hc2⟩ := h.cap
  have hd := rDead h
  have hll : rs.length ≤ 1000000 := by rw [h.len]; exact Nat.le_trans hok.len hok.many
  have hat := rAt h hll s
  have hnm := rNamed s w
  have hus := hok.used
  have HSG := hide hsg
  have HH := hide h
  clear h hsg
  unfold pWrite
  by_cases h0 : p.left = 0
  · have e2 : (p.left == 0) = true := by simp [h0]
    rw [e2] at hd
    rw [if_pos h0]
    clear hat hnm
    go_enter Try.func19, Try.ntmps19
    go_wp2_with fail
    refine hd.mono ?_
    rintro e w1 ⟨rfl, rfl⟩
    go_wp2
    go_ret
    exact ⟨rfl, ⟨_, _, HH.out, fun _ _ h => h⟩, Turned.refl _ _ _⟩
  have e2 : (p.left == 0) = false := by simp [h0]
  rw [e2] at hd
  rw [if_neg h0]
  cases hnt : okName (nm s) with
  | false =>
    rw [if_pos rfl]
    rw [hnt] at hnm
    clear hat
    go_enter Try.func19, Try.ntmps19
    go_wp2_with fail
    refine hd.mono ?_
    rintro e w1 ⟨rfl, rfl⟩
    go_wp2_with fail
    refine hnm.mono ?_
    rintro e w2 ⟨rfl, rfl⟩
    go_wp2
    go_ret
    exact ⟨rfl, ⟨_, _, HH.out, fun _ _ h => h⟩, Turned.refl _ _ _⟩
  | true =>
    rw [if_neg (by decide)]
    rw [hnt] at hnm
    have HR := hide hok.rise
    have hwas : ∃ was : Nat, fWas (nm s) p.l = was ∧ was ≤ 1048576 := ⟨_, rfl, fWas_le hok.size⟩
    obtain ⟨was, hwas, hwl⟩ := hwas
    have hcase : (isAt (nm s) p.l = false ∧ was = 0) ∨ (isAt (nm s) p.l = true ∧ ∃ r, rs[pos (nm s) p.l]? = some r ∧ was = r.f.x.length) := by
      cases his : isAt (nm s) p.l with
      | false => exact .inl ⟨rfl, by rw [← hwas]; exact was_no hok.rise his⟩
      | true =>
        obtain ⟨f, hf, _⟩ := isAt_get his
        obtain ⟨r, hr, rfl⟩ := HH.out.at_pos hf
        exact .inr ⟨rfl, r, hr, by rw [← hwas]; exact was_yes hok.rise his hf⟩
    rw [hwas]
    have hmax : ¬ 1048576 < l.length := by omega
    have hres : (if 1048576 < l.length ∨ p.room < (fSum p.l : Int) - (was : Int) + (l.length : Int) then (p, (22 : Int)) else (({ p with l := fPut ⟨nm s, l, 0⟩ p.l } : Pd).done, 0)) = if p.room < (fSum p.l : Int) - (was : Int) + (l.length : Int) then (p, (22 : Int)) else (({ p with l := fPut ⟨nm s, l, 0⟩ p.l } : Pd).done, 0) := by
      by_cases hf : p.room < (fSum p.l : Int) - (was : Int) + (l.length : Int)
      · rw [if_pos (.inr hf), if_pos hf]
      · rw [if_neg (by omega), if_neg hf]
    rw [hres]
    have hw1 : IntKind.i64.wrap ((fSum p.l : Int) - (was : Int)) = (fSum p.l : Int) - (was : Int) := by rw [IntKind.wrap_i64]; omega
    have hw2 : IntKind.i64.wrap ((fSum p.l : Int) - (was : Int) + (l.length : Int)) = (fSum p.l : Int) - (was : Int) + (l.length : Int) := by rw [IntKind.wrap_i64]; omega
    have hw3 : wrap64 ((fSum p.l : Int) - (was : Int)) = (fSum p.l : Int) - (was : Int) := by unfold wrap64; omega
    have hw4 : wrap64 ((fSum p.l : Int) - (was : Int) + (l.length : Int)) = (fSum p.l : Int) - (was : Int) + (l.length : Int) := by unfold wrap64; omega
    have hmi : (l.length : Int) ≤ 1048576 := by omega
    have hmd : decide ((1048576 : Int) < (l.length : Int)) = false := by simp; omega
    have hw5 : IntKind.i64.wrap (fSum p.l : Int) = (fSum p.l : Int) := by rw [IntKind.wrap_i64]; omega
    have hw6 : IntKind.i64.wrap ((fSum p.l : Int) + (l.length : Int)) = (fSum p.l : Int) + (l.length : Int) := by rw [IntKind.wrap_i64]; omega
    clear hres hwas hnt
    generalize isAt (nm s) p.l = is at *
    generalize pos (nm s) p.l = i at *
    by_cases hf : p.room < (fSum p.l : Int) - (was : Int) + (l.length : Int)
    · rw [if_pos hf]
      go_enter Try.func19, Try.ntmps19
      go_wp2_with fail
      refine hd.mono ?_
      rintro e w1 ⟨rfl, rfl⟩
      go_wp2_with fail
      refine hnm.mono ?_
      rintro e w2 ⟨rfl, rfl⟩
      go_wp2_with fail
      refine hat.mono ?_
      rintro e w3 ⟨rfl, q, rfl⟩
      clear hat hd hnm
      have hb := below_drewN' (Below.refl w2.heap.size w2) q
      have h3 := HH.out.below hb
      have HB := hide hb
      have HSG3 := hide (HSG.out.below hb)
      generalize w2.drewN q = w3 at *
      obtain ⟨c0, c1, c2⟩ := h3.box.cells3
      have H3 := hide h3
      have HC := fun n => (rUsed (h3.below (below_drewN' (Below.refl _ _) n)) hll hus).mono (fun e w' (hx : e = .returned (.int .i64 (fSum p.l : Nat)) ∧ w' = w3.drewN n) => (⟨hx.1, 0, hx.2⟩ : e = .returned (.int .i64 (fSum p.l : Nat)) ∧ ∃ m, w' = (w3.drewN n).drewN m))
      clear hb
      rcases hcase with ⟨rfl, rfl⟩ | ⟨rfl, r, hr, rfl⟩
      case' inr =>
        obtain ⟨b, off, rfl, d0, d1, d2⟩ := h3.file hr
        have hil : i < rs.length := (List.getElem?_eq_some_iff.1 hr).1
        clear hr
        clear h3
        go_wp2_with fail
      case' inl =>
        simp only [Int.natCast_zero, Int.sub_zero] at hf hw1 hw2 hw3 hw4
        clear h3
        go_wp2_with fail
      all_goals
        go_quiet (first | (go_at_call 48; exact Calls.quiet_of (HC _)))
        clear HC
        go_wp2
        go_ret
        have hbn := below_drewN' (Below.refl w3.heap.size w3) nq
        exact ⟨rfl, ⟨_, _, H3.out.below hbn, fun _ _ h => h⟩, (Turned.below HB.out).trans (Turned.below hbn)⟩
    · rw [if_neg hf]
      go_enter Try.func19, Try.ntmps19
      go_wp2_with fail
      refine hd.mono ?_
      rintro e w1 ⟨rfl, rfl⟩
      go_wp2_with fail
      refine hnm.mono ?_
      rintro e w2 ⟨rfl, rfl⟩
      go_wp2_with fail
      refine hat.mono ?_
      rintro e w3 ⟨rfl, q, rfl⟩
      clear hat hd hnm
      have hb := below_drewN' (Below.refl w2.heap.size w2) q
      have h3 := HH.out.below hb
      have HB := hide hb
      have HSG3 := hide (HSG.out.below hb)
      generalize w2.drewN q = w3 at *
      obtain ⟨c0, c1, c2⟩ := h3.box.cells3
      have H3 := hide h3
      have HC := fun n => (rUsed (h3.below (below_drewN' (Below.refl _ _) n)) hll hus).mono (fun e w' (hx : e = .returned (.int .i64 (fSum p.l : Nat)) ∧ w' = w3.drewN n) => (⟨hx.1, 0, hx.2⟩ : e = .returned (.int .i64 (fSum p.l : Nat)) ∧ ∃ m, w' = (w3.drewN n).drewN m))
      clear hb
      rcases hcase with ⟨rfl, rfl⟩ | ⟨rfl, r, hr, rfl⟩
      case' inr =>
        obtain ⟨b, off, rfl, d0, d1, d2⟩ := h3.file hr
        have hil : i < rs.length := (List.getElem?_eq_some_iff.1 hr).1
        clear hr
        clear h3
        go_wp2_with fail
      case' inl =>
        simp only [Int.natCast_zero, Int.sub_zero] at hf hw1 hw2 hw3 hw4
        clear h3
        go_wp2_with fail
      all_goals
        go_quiet (first | (go_at_call 48; exact Calls.quiet_of (HC _)))
        clear HC
        have hbn := below_drewN' (Below.refl w3.heap.size w3) nq
        have H4 := hide (And.intro (H3.out.below hbn) (And.intro ((HB.out.trans (hbn.mono HB.out.size))) (HSG3.out.below hbn)))
        generalize w3.drewN nq = w4 at *
        clear hbn
        go_wp2_with (first | (at_builtin; refine app_seg rfl _ _ rfl w4.heap.size _ [] rfl (Own.nil _ _) _ l rfl H4.out.2.2 (by simp; omega) (Nat.le_refl _) ?_; intro v5 w5 o5 k5; obtain ⟨a5, c5, n5, hn5, hs5, hb5, hnw5, rfl⟩ := bytes_madeN o5 k5 (by omega)) | fail)
        have H5 := hide (H4.out.1.below hb5.out)
        have HPUT := hide (rPutN' H5.out hll HR.out s l 0 a5 c5 hs5.out hn5.out)
        have HT5 : Hid (Turned R R w2 w5) := (Turned.below H4.out.2.1).trans (Turned.below hb5.out)
        clear o5 k5
        refine HPUT.out.mono ?_
        rintro e w6 ⟨rfl, ⟨rs6, vl6, h6, hz6, hv6⟩, t6⟩
        have HZ6 := hide (And.intro hz6 hv6)
        clear hz6 hv6
        have H6 := hide (And.intro h6 t6)
        clear h6 t6 HPUT
        go_wp2_with fail
        refine (rDone H6.out.1 hlf).mono ?_
        rintro e w7 ⟨rfl, h7, t7⟩
        have H7 := hide (And.intro h7 t7)
        clear h7 t7
        go_wp2
        go_ret
        exact ⟨rfl, ⟨_, _, H7.out.1, fun g hg ho => ho.put HZ6.out.1 hnw5.out HZ6.out.2 (Nat.lt_of_lt_of_le hg H4.out.2.1.size) (Nat.lt_of_lt_of_le hg (Nat.le_trans H4.out.2.1.size hb5.out.size))⟩, (HT5.out.trans H6.out.2).trans H7.out.2⟩
end Go.Proofs.Ytnokibjhkdaamaa
