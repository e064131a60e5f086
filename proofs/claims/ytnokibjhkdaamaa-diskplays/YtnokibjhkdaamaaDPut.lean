/-
  Walks over the document's disk: put.
-/
import Derived.Test.YtnokibjhkdaamaaDOwnR
namespace Go.Proofs.Ytnokibjhkdaamaa
open Go.RowKit Go.Maps

theorem RowR.below {w w' : World} {v : Value} {rs : List Rf} (h : RowR w v rs) (hb : Below w.heap.size w w') : RowR w' v rs := (LSeg.below h hb).mono hb.size
theorem RowR.alloc {w : World} {v : Value} {rs : List Rf} (h : RowR w v rs) (o : Obj) : RowR (w.alloc o) v rs := h.below ((Below.refl _ _).alloc (Nat.le_refl _) o)
theorem lit_row (w : World) (r : Rf) : RowR (w.alloc (.cells #[.string ⟨r.f.n.toArray⟩, .slice r.a r.f.x.length r.c, .int .i64 (r.f.s : Nat)] 76)) (.slice (some ⟨w.heap.size, 0, none⟩) 1 1) [r] := by
  refine ⟨_, 1, rfl, by simp, .inr ⟨_, 0, rfl, by simp, fun i x hx j u hu => ?_⟩⟩
  have hi : i = 0 := by
    cases i with
    | zero => rfl
    | succ i => simp at hx
  subst hi
  obtain rfl : r = x := by simpa using hx
  have hb := heap_alloc_new w (.cells #[.string ⟨r.f.n.toArray⟩, .slice r.a r.f.x.length r.c, .int .i64 (r.f.s : Nat)] 76)
  unfold World.cell?
  dsimp only
  rw [hb]
  simp only [Nat.zero_mul, Nat.zero_add]
  rw [← hu]
  simp [Rf.cs]
theorem BoxT.keeps {t : TypeId} {w w' : World} {i : Nat} {cs : Array Value} (h : BoxT t w i cs) (hb : Below w.heap.size w w') : BoxT t w' i cs := by
  have hl := h.lt
  unfold BoxT at *
  rw [hb.block i hl]; exact h
theorem below_none {w w' : World} (h : w.grownBy w' none) : Below w.heap.size w w' := ⟨h.os, h.tape, h.output, h.size, fun k hk => h.block k hk (by simp)⟩

theorem OwnR.caps {base : Nat} {w : World} {v : Value} {rs : List Rf} (h : OwnR base w v rs) : ∃ ao c, v = .slice ao rs.length c ∧ rs.length ≤ c ∧ c ≤ 9223372036854775807 := by
  rcases h.2 with ⟨rfl, h0⟩ | ⟨g, cap, cur, rfl, _, _, h4, h5, _⟩
  · exact ⟨none, 0, by rw [h0], by omega, by omega⟩
  · exact ⟨_, cap, rfl, h4, h5⟩
theorem OwnR.form {base : Nat} {w : World} {v : Value} {rs : List Rf} (h : OwnR base w v rs) : ∃ ao n cap, Hid (n = rs.length) ∧ v = .slice ao n cap := by
  obtain ⟨ao, cap, rfl⟩ := h.shape
  exact ⟨ao, _, cap, rfl, rfl⟩
theorem own_b {B : Nat} {w1 w w' : World} {v : Value} {rs : List Rf} (h : Below B w1 w) (ho : OwnR B w v rs) (hg : w.grownBy w' v.ownBlock) (hB : B ≤ w.heap.size) : Below B w1 w' :=
  h.trans ⟨hg.os, hg.tape, hg.output, hg.size, fun k hk => hg.block k (by omega) (fun e => by have := (World.ownsRow.lt ho k e.symm).1; omega)⟩

/-- The disk behind a new list of files is stored. -/
theorem RAt.newList {w w1 : World} {R : Nat} {p : Pd} {rs : List Rf} {vl : Value} (h : RAt w R p rs vl) (hb : Below w.heap.size w w1) {base : Nat} {v : Value} {rs' : List Rf} (ho : OwnR base w1 v rs') (hl : rs'.length ≤ 1000000000) (hd : ∀ r ∈ rs', Seg w1 (.slice r.a r.f.x.length r.c) r.f.x) (L : List Fi) (hL : rs'.map Rf.f = L) :
    RAt (w1.setCell ⟨R, 0, none⟩ v) R { p with l := L } rs' v ∧ TurnedR R w (w1.setCell ⟨R, 0, none⟩ v) := by
  have h1 := h.below hb
  obtain ⟨ao, cap, rfl⟩ := h1.shape
  have ht : TurnedR R w1 (w1.setCell ⟨R, 0, none⟩ v) := Turned.set R R w1 0 v
  have n1 : ∀ j (x : ByteArray), w1.cell? ⟨R, j, none⟩ ≠ some (.string x) := fun j x => h1.box.none_of (by simp) j
  have n2 : ∀ j (x : Int), w1.cell? ⟨R, j, none⟩ ≠ some (.int .u8 x) := fun j x => h1.box.none_of (by simp) j
  exact ⟨⟨h1.box.set 0 v, hL, row_far (ho.row (by omega)) ht n1 n1, fun r hr => (hd r hr).far ht n2 n2, ho.caps⟩, (Turned.below hb).trans ht⟩
theorem put_list {rs : List Rf} {p : Pd} (he : rs.map Rf.f = p.l) (r : Rf) (i j : Nat) : (rs.take i ++ [r] ++ rs.drop j).map Rf.f = p.l.take i ++ r.f :: p.l.drop j := by
  rw [← he]
  simp [List.map_take, List.map_drop]

set_option maxHeartbeats 4000000 in
set_option maxRecDepth 100000 in
theorem rPut {w : World} {R : Nat} {p : Pd} {rs : List Rf} {ao : Option Addr} {cap : Nat} (h : RAt w R p rs (.slice ao rs.length cap)) (hl : rs.length ≤ 1000000) (hcap : rs.length ≤ cap ∧ cap ≤ 9223372036854775807) (hr : Rise p.l) (r : Rf) (hrd : Seg w (.slice r.a r.f.x.length r.c) r.f.x) :
    Calls Try.prog 49 #[.pointer (some ⟨R, 0, none⟩), .agg #[.string ⟨r.f.n.toArray⟩, .slice r.a r.f.x.length r.c, .int .i64 (r.f.s : Nat)]] w fun e w' => e = .returned (.tuple #[]) ∧ (∃ rs' vl', RAt w' R { p with l := fPut r.f p.l } rs' vl') ∧ TurnedR R w w' := by
  have hb0 := (Below.refl w.heap.size w).alloc (Nat.le_refl _) (.cells #[.string ⟨r.f.n.toArray⟩, .slice r.a r.f.x.length r.c, .int .i64 (r.f.s : Nat)] 76)
  have bq := BoxT.new 76 w #[.string ⟨r.f.n.toArray⟩, .slice r.a r.f.x.length r.c, .int .i64 (r.f.s : Nat)]
  have h1 := h.below hb0
  have hat := rAt h1 hl ⟨r.f.n.toArray⟩
  rw [nm_ba] at hat
  have HP := hide (fPut_pos r.f hr)
  have HH := hide (And.intro h1 (And.intro bq (And.intro hb0 hrd)))
  have hple := pos_le r.f.n p.l
  rw [← h.len] at hple
  have hisl : isAt r.f.n p.l = true → pos r.f.n p.l < rs.length := fun e => by
    obtain ⟨f, hf, _⟩ := isAt_get e
    rw [h.len]
    exact (List.getElem?_eq_some_iff.1 hf).1
  clear h h1 hb0 bq
  generalize pos r.f.n p.l = i at *
  generalize isAt r.f.n p.l = is at *
  have HIS := hide hisl
  clear hisl
  go_enter Try.func49, Try.ntmps49
  go_wp2_with fail
  generalize w.alloc (.cells #[.string ⟨r.f.n.toArray⟩, .slice r.a r.f.x.length r.c, .int .i64 (r.f.s : Nat)] 76) = W at *
  refine hat.mono ?_
  rintro e w1 ⟨rfl, q, rfl⟩
  clear hat
  obtain ⟨h1, bq, hb0, hsg⟩ := HH.out
  have hbq : Below w.heap.size w (W.drewN q) := below_drewN' hb0 q
  have h2 : RAt (W.drewN q) R p rs (.slice ao rs.length cap) := h1.below (below_drewN' (Below.refl _ _) q)
  have bq2 : BoxT 76 (W.drewN q) w.heap.size #[.string ⟨r.f.n.toArray⟩, .slice r.a r.f.x.length r.c, .int .i64 (r.f.s : Nat)] := bq
  have hq2 : w.heap.size < (W.drewN q).heap.size := bq2.lt
  generalize W.drewN q = W1 at *
  obtain ⟨c0, c1, c2⟩ := h2.box.cells3
  obtain ⟨d0, d1, d2⟩ := bq2.cells3
  have HROW : Hid (RowR W1.drew (.slice ao i cap) (rs.take i)) := RowR.first h2.row i hple cap
  have hic : i ≤ cap := by omega
  have hRl := h2.box.lt
  have e0 : ∀ o, (W1.alloc o).cell? ⟨R, 0, none⟩ = some (.slice ao rs.length cap) := fun o => (((Below.refl W1.heap.size W1).alloc (Nat.le_refl _) o).cell (p := ⟨R, 0, none⟩) hRl).trans c0
  have HBQ : Hid (BoxT 76 W1.drew w.heap.size #[.string ⟨r.f.n.toArray⟩, .slice r.a r.f.x.length r.c, .int .i64 (r.f.s : Nat)]) := bq2
  have H2 := hide (And.intro h2 (And.intro hbq hsg))
  clear h1 bq hb0 hsg h2 bq2 hbq HH
  go_wp2_with fail
  go_region_law (first
    | (refine stepR rfl _ _ rfl rfl rfl (OwnR.nil W1.heap.size _) HROW.out (by simp; omega) (Nat.le_refl _) ?_; intro v3 w3 o3 g3; obtain ⟨x0, x1, x2⟩ := (HBQ.out.keeps (below_none g3)).cells3; have B3 : Hid (Below W1.heap.size W1 w3) := own_b ((Below.refl _ _).drew) (OwnR.nil _ _) g3 (Nat.le_refl _))
    | (refine stepR rfl _ _ rfl rfl rfl (OwnR.nil W1.heap.size _) (RowR.alloc (w := W1) HROW.out (.cells #[.string ⟨r.f.n.toArray⟩, .slice r.a r.f.x.length r.c, .int .i64 (r.f.s : Nat)] 76)) (by simp; omega) (by simp) ?_; intro v3 w3 o3 g3; have B3 : Hid (Below W1.heap.size W1 w3) := own_b (((Below.refl _ _).alloc (Nat.le_refl _) _).drew) (OwnR.nil _ _) g3 (by simp))
    | (refine stepR rfl _ _ rfl rfl rfl (o3.alloc _) (lit_row w3 r) (by simp; omega) (by have := g3.size; simp at this ⊢; omega) ?_; intro v4 w4 o4 g4; have B4 : Hid (Below W1.heap.size W1 w4) := own_b (B3.out.alloc B3.out.size _) (o3.alloc _) g4 (by have := B3.out.size; simp; omega))
    | (refine stepR rfl _ _ rfl rfl rfl o3 (RowR.below (w := (W1.alloc (.cells #[.string ⟨r.f.n.toArray⟩, .slice r.a r.f.x.length r.c, .int .i64 (r.f.s : Nat)] 76)).drew) (lit_row W1 r) (below_none g3)) (by simp; omega) (by have := g3.size; simp at this ⊢; omega) ?_; intro v4 w4 o4 g4; have B4 : Hid (Below W1.heap.size W1 w4) := own_b B3.out o3 g4 B3.out.size))
  all_goals
    rw [List.nil_append] at o4
    have O4 := hide o4
    clear o3 g3 g4 o4 B3 HROW e0 HBQ
    try clear x0 x1 x2
    obtain ⟨h2, hbq, hsg⟩ := H2.out
    have h4 := h2.below B4.out
    obtain ⟨c0, c1, c2⟩ := h4.box.cells3
    have f0 := h4.box.free 0
    have H4 := hide h4
    clear h2 hbq hsg h4
    have hisl := HIS.out
    have HPX := HP
    clear HP HIS
    cases is
    · obtain ⟨vs, hsl, hrw⟩ := slice_row (ao := ao) (cap := cap) rs i hple hcap.1
      have HPL : Hid (fPut r.f p.l = p.l.take i ++ r.f :: p.l.drop i) := HPX.out
      have HRW := hide (hrw w4 H4.out.row)
      clear hrw HPX hisl
      go_wp2_with (first | (at_builtin; refine appR rfl _ _ rfl rfl rfl O4.out HRW.out (by simp; omega) B4.out.size ?_; intro v5 w5 o5 g5; have B5 : Hid (Below W1.heap.size W1 w5) := own_b B4.out O4.out g5 B4.out.size; obtain ⟨y0, y1, y2⟩ := (H2.out.1.below B5.out).box.cells3; have fy := (H2.out.1.below B5.out).box.free 0; obtain ⟨a5, n5, c5, hn5, rfl⟩ := o5.form) | fail)
      go_end0
      obtain ⟨h2, hbq, hsg⟩ := H2.out
      have hd5 : ∀ z ∈ rs.take i ++ [r] ++ rs.drop (i), Seg w5 (.slice z.a z.f.x.length z.c) z.f.x := fun z hz => by
        rcases List.mem_append.1 hz with hz | hz
        · rcases List.mem_append.1 hz with hz | hz
          · exact (h2.data z (List.mem_of_mem_take hz)).below B5.out
          · obtain rfl : z = r := by simpa using hz
            exact hsg.below (hbq.trans (B5.out.mono hbq.size))
        · exact (h2.data z (List.mem_of_mem_drop hz)).below B5.out
      obtain ⟨g1, g2⟩ := h2.newList B5.out o5 (by simp; omega) hd5 (fPut r.f p.l) ((put_list h2.eq r i (i)).trans HPL.out.symm)
      exact ⟨rfl, ⟨_, _, g1⟩, (Turned.below hbq).trans g2⟩
    · obtain ⟨vs, hsl0, hrw⟩ := slice_row (ao := ao) (cap := cap) rs (i + 1) (hisl rfl) hcap.1
      have hsl : ∀ W, (Instr.sliceAt 69 (.slice ao rs.length cap) (some (.int .i64 ((i : Int) + 1))) none none).run Try.prog W = .ok vs W := fun W => by have := hsl0 W; rw [Int.natCast_add] at this; exact this
      have HPL : Hid (fPut r.f p.l = p.l.take i ++ r.f :: p.l.drop (i + 1)) := HPX.out
      have hw1 : wrap64 ((i : Int) + 1) = (i : Int) + 1 := by unfold wrap64; omega
      clear hsl0
      have HRW := hide (hrw w4 H4.out.row)
      clear hrw HPX hisl
      go_wp2_with (first | (at_builtin; refine appR rfl _ _ rfl rfl rfl O4.out HRW.out (by simp; omega) B4.out.size ?_; intro v5 w5 o5 g5; have B5 : Hid (Below W1.heap.size W1 w5) := own_b B4.out O4.out g5 B4.out.size; obtain ⟨y0, y1, y2⟩ := (H2.out.1.below B5.out).box.cells3; have fy := (H2.out.1.below B5.out).box.free 0; obtain ⟨a5, n5, c5, hn5, rfl⟩ := o5.form) | fail)
      go_end0
      obtain ⟨h2, hbq, hsg⟩ := H2.out
      have hd5 : ∀ z ∈ rs.take i ++ [r] ++ rs.drop (i + 1), Seg w5 (.slice z.a z.f.x.length z.c) z.f.x := fun z hz => by
        rcases List.mem_append.1 hz with hz | hz
        · rcases List.mem_append.1 hz with hz | hz
          · exact (h2.data z (List.mem_of_mem_take hz)).below B5.out
          · obtain rfl : z = r := by simpa using hz
            exact hsg.below (hbq.trans (B5.out.mono hbq.size))
        · exact (h2.data z (List.mem_of_mem_drop hz)).below B5.out
      obtain ⟨g1, g2⟩ := h2.newList B5.out o5 (by simp; omega) hd5 (fPut r.f p.l) ((put_list h2.eq r i (i + 1)).trans HPL.out.symm)
      exact ⟨rfl, ⟨_, _, g1⟩, (Turned.below hbq).trans g2⟩
end Go.Proofs.Ytnokibjhkdaamaa
