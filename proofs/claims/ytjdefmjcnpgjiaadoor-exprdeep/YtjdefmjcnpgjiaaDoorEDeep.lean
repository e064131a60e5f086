/-
  ExprDeep, the deep tree.
-/
import Derived.Test.YtjdefmjcnpgjiaaDoorEDeepP
namespace Go.Proofs.YtjdefmjcnpgjiaaDoor
open Go.RowKit

theorem cut40 (n : Int) : ∃ N : Nat, 1 ≤ N ∧ N ≤ 40 ∧ wrap64 (1 + (wrap64 (n.tmod 40 + 40)).tmod 40) = N := by
  have a1 := Int.tmod_lt_of_pos n (show (0 : Int) < 40 by decide)
  have a2 := Int.lt_tmod_of_pos n (show (0 : Int) < 40 by decide)
  have a3 : wrap64 (n.tmod 40 + 40) = n.tmod 40 + 40 := by unfold wrap64; omega
  rw [a3]
  have a4 := Int.tmod_lt_of_pos (n.tmod 40 + 40) (show (0 : Int) < 40 by decide)
  have a5 := Int.tmod_nonneg (a := n.tmod 40 + 40) 40 (by omega)
  generalize (n.tmod 40 + 40).tmod 40 = m at a4 a5
  refine ⟨(1 + m).toNat, by omega, by omega, ?_⟩
  unfold wrap64
  omega
/-- What the loop keeps: the tree lies in its box, and the box is no part of it. -/
structure DS (w0 w : World) (B k : Nat) (e : Ex) : Prop where
  bel : Below w0.heap.size w0 w
  box : Bx w B (.int .i64 e.op) (.int .i64 e.n) (.slice e.a e.l.length e.c)
  in_ : In w e
  free : Free w e
  off : offB B e
  sh : Sh k (2 * k - 1) e
  B0 : w0.heap.size ≤ B
theorem DS.next {w0 w W : World} {B k g : Nat} {e : Ex} (h : DS w0 w B k e) (hk : 1 ≤ k) (hb : Below w.heap.size w W) (hin : In W (mk2 5 g e (leaf 1 1))) (hfr : Free W (mk2 5 g e (leaf 1 1))) (hgB : g ≠ B) :
    DS w0 (((W.setCell ⟨B, 0, none⟩ (.int .i64 5)).setCell ⟨B, 1, none⟩ (.int .i64 0)).setCell ⟨B, 2, none⟩ (.slice (some ⟨g, 0, none⟩) 2 2)) B (k + 1) (mk2 5 g e (leaf 1 1)) := by
  have hoff : offB B (mk2 5 g e (leaf 1 1)) := offB.mk2 hgB h.off (offB.leaf _ _ _)
  have hbx := h.box.below hb
  have q1 := heap_setCell_same W B 0 _ 24 (.int .i64 5) hbx
  have q2 := heap_setCell_same _ B 1 _ 24 (.int .i64 0) q1
  have q3 := heap_setCell_same _ B 2 _ 24 (.slice (some ⟨g, 0, none⟩) 2 2) q2
  have far : ∀ q, q ≠ B → q < W.heap.size → (((W.setCell ⟨B, 0, none⟩ (.int .i64 5)).setCell ⟨B, 1, none⟩ (.int .i64 0)).setCell ⟨B, 2, none⟩ (.slice (some ⟨g, 0, none⟩) 2 2)).heap[q]? = W.heap[q]? := fun q hq _ => by
    rw [heap_far _ B 2 _ q hq, heap_far _ B 1 _ q hq, heap_far _ B 0 _ q hq]
  have hbl := h.bel.trans (hb.mono h.bel.size)
  have hs := Sh.two (op := 5) (g := g) (by decide) h.sh Sh.leaf1
  refine ⟨((hbl.setCell (p := ⟨B, 0, none⟩) h.B0 _).setCell (p := ⟨B, 1, none⟩) h.B0 _).setCell (p := ⟨B, 2, none⟩) h.B0 _, q3, hin.off hoff far, hfr.off hoff far, hoff, ?_, h.B0⟩
  have e1 : 1 + max k 1 = k + 1 := by omega
  have e2 : 1 + (2 * k - 1 + 1) = 2 * (k + 1) - 1 := by omega
  rw [e1, e2] at hs
  exact hs
set_option maxHeartbeats 4000000 in
set_option maxRecDepth 100000 in
theorem deep_no {w : World} (hg : Glob w) (n : Int) :
    Calls Tryd.prog 6 #[.int .i64 n, .bool false] w fun r w' => r = .returned (.bool true) ∧ Below w.heap.size w w' := by
  have HG := hide hg
  clear hg
  obtain ⟨N, hN1, hN2, hN⟩ := cut40 n
  go_enter Tryd.func6, Tryd.ntmps6
  go_wp2_with (go_at_call 8; refine (known_any HG.out).mono ?_; rintro r w1 ⟨rfl, hb1⟩; have HB1 := hide hb1; clear hb1)
  (try rw [hN])
  generalize (wrap64 (n.tmod 40 + 40)).tmod 40 = r1 at *
  generalize wrap64 (n.tmod 40 + 40) = r2 at *
  generalize n.tmod 40 = r3 at *
  clear hN
  have HD : Hid (DS w (w1.alloc (.cells #[.int .i64 4, .int .i64 0, .slice none 0 0] 24)) w1.heap.size 1 (leaf 4 0)) :=
    ⟨HB1.out.trans ((below1 w1 _).mono HB1.out.size), Bx.new _ _ _ _, leaf_in (by omega) (by omega) (by omega) (by omega), leaf_free _ _ _, offB.leaf _ _ _, Sh.leaf4, HB1.out.size⟩
  generalize w1.heap.size = B at *
  go_loopw [8] (fun i wx => ∃ (k : Nat) (e : Ex), 1 ≤ k ∧ k ≤ N ∧ i = .int .i64 k ∧ Hid (DS w wx B k e)) (fun i _ => N - (intOf i).toNat)
  case atStart => exact ⟨1, leaf 4 0, Nat.le_refl _, hN1, rfl, HD⟩
  case round =>
    clear HD
    obtain ⟨k, e, hk1, hkN, rfl, HD⟩ := hrel
    by_cases hlt : k < N
    · go_upto_region 15 with fail
      have hdr : Below wr.heap.size wr wr.drew := (Below.refl _ wr).drew
      have HB0 := hide hdr
      have L1 : Hid (∀ w, In w (leaf 1 1)) := fun w => leaf_in (by omega) (by omega) (by omega) (by omega)
      have T1 := hide HD.out.box.tri
      have hHeld : wr.drew.cell? ⟨B, 0, none⟩ = some (.int .i64 e.op) ∧ wr.drew.cell? ⟨B, 1, none⟩ = some (.int .i64 e.n) ∧ wr.drew.cell? ⟨B, 2, none⟩ = some (.slice e.a e.l.length e.c) := ⟨(T1.out.below hdr).c0, (T1.out.below hdr).c1, (T1.out.below hdr).c2⟩
      clear hdr
      refine wp_region_M (S := fun w' => w'.cell? ⟨B, 0, none⟩ = some (.int .i64 e.op) ∧ w'.cell? ⟨B, 1, none⟩ = some (.int .i64 e.n) ∧ w'.cell? ⟨B, 2, none⟩ = some (.slice e.a e.l.length e.c)) (late := [3]) (by kernel_rfl) hHeld (fun hHeld => ?_)
      (try simp only [List.size_toArray, List.length_cons, List.length_nil, Nat.zero_add, Nat.reduceAdd, Array.replicate, List.replicate])
      refine wpAnyM_take (i := 0) (oi := ⟨_, _, _, _, _, _⟩) (v := ?_) rfl (by kernel_rfl) (by kernel_rfl) (by kernel_rfl) (by kernel_rfl) (fun _ _ _ h => h) (Or.inl ⟨by rfl, ?_⟩) hHeld ?_
      rotate_left
      · (intro w' hSw; (try dsimp only at hSw); go_simp; try (with_reducible rfl))
      (try simp only [Act.put, List.setIfInBounds_toArray, List.set_cons_zero, List.set_cons_succ])
      clear hHeld
      refine wpAnyM_one (i := 1) (o := ⟨_, _, _, _, _, _⟩) (by kernel_rfl) rfl (fun K hK => ?_)
      go_simp
      go_at_call 19
      refine (konst_any 1 _).mono ?_
      rintro r w2 ⟨rfl, hb⟩
      have hb1 : Below wr.heap.size wr w2 := HB0.out.trans (hb.mono HB0.out.size)
      have HB2 := hide hb1
      refine hK.out _ _ ⟨(T1.out.below hb1).c0, (T1.out.below hb1).c1, (T1.out.below hb1).c2⟩ (fun hHeld => ?_)
      clear hK K hHeld
      (try simp only [List.setIfInBounds_toArray, List.set_cons_zero, List.set_cons_succ])
      clear hb hb1
      refine wpAnyM_one (i := 2) (o := ⟨_, _, _, _, _, _⟩) (by kernel_rfl) rfl (fun K hK => ?_)
      go_simp
      go_at_call 17
      have hval : e.val = .agg #[.int .i64 e.op, .int .i64 e.n, .slice e.a e.l.length e.c] := by obtain ⟨op, n, a, c, l⟩ := e; simp [Ex.val]
      have htw := two_any 5 e (leaf 1 1) (by decide) (by decide) (HD.out.in_.below HB2.out) (L1.out _)
      rw [hval] at htw
      refine htw.mono ?_
      clear htw hval
      rintro r w3 ⟨g, rfl, hin, hfr, hgs, hb⟩
      have hb1 : Below wr.heap.size wr w3 := HB2.out.trans (hb.mono HB2.out.size)
      have HB3 := hide hb1
      have hBl := HD.out.box.lt
      have HN := hide (HD.out.next hk1 hb1 hin (hfr (HD.out.free.below HB2.out) (leaf_free _ _ _)) (by have := HB2.out.size; omega))
      have bx3 := HD.out.box.below hb1
      refine hK.out _ _ ⟨(T1.out.below hb1).c0, (T1.out.below hb1).c1, (T1.out.below hb1).c2⟩ (fun hHeld => ?_)
      clear hK K hHeld
      (try simp only [List.setIfInBounds_toArray, List.set_cons_zero, List.set_cons_succ])
      clear hb hb1 hin hgs hfr hBl
      obtain ⟨x0, x1, x2⟩ := bx3.cells
      have y0 := bx3.free 0
      have y1 := bx3.free 1
      have y2 := bx3.free 2
      refine wpAnyM_last (i := 3) (o := ⟨_, _, _, _, _, _⟩) (by kernel_rfl) (by rfl) rfl (fun K hK => ?_)
      go_simp
      refine hK.out _ _ ?_
      clear hK K
      (try simp only [List.setIfInBounds_toArray, List.set_cons_zero, List.set_cons_succ])
      refine wpAnyM_done (by kernel_rfl) ?_ _
      go_wp2_with fail
      go_roundw
      case rel => exact ⟨k + 1, mk2 5 g e (leaf 1 1), by omega, by omega, by go_num, HN⟩
      case measure => simp [intOf]; omega
    · have hkN' : k = N := by omega
      subst hkN'
      obtain ⟨c0, c1, c2⟩ := HD.out.box.cells
      have hck := check_any e HD.out.in_ HD.out.free (HD.out.sh.small (by omega))
      rw [HD.out.sh.chk] at hck
      obtain ⟨eo, en, ea, ec, el⟩ := e
      unfold Ex.val at hck
      simp only at c0 c1 c2 hck
      have HCK := hide hck
      clear hck
      by_cases h8 : k ≤ 8
      · rw [if_neg (by omega)] at HCK
        go_wp2_with (go_at_call 11; refine HCK.out.mono ?_; rintro r w2 ⟨rfl, hb2⟩)
        go_ret
        exact ⟨rfl, HD.out.bel.trans (hb2.mono HD.out.bel.size)⟩
      · rw [if_pos (by omega)] at HCK
        go_wp2_with (go_at_call 11; refine HCK.out.mono ?_; rintro r w2 ⟨rfl, hb2⟩)
        go_ret
        exact ⟨rfl, HD.out.bel.trans (hb2.mono HD.out.bel.size)⟩
end Go.Proofs.YtjdefmjcnpgjiaaDoor
