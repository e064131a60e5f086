/-
  Texts of the vault, in build order: RefSnap.
-/
import Derived.Test.YtbfhcbihgleddaaGreatDoorM09
import Derived.Test.YtbfhcbihgleddaaGreatDoorM15
/-
  Walks over the document's writer of parts of snapshots.
-/
namespace Go.Proofs.YtbfhcbihgleddaaGreatDoor
open Go.RowKit

theorem small_any (n : Int) (w : World) : Calls Tryz.prog 103 #[.int .i64 n] w fun e w' => e = .returned (.bool (decide (0 ≤ n ∧ n ≤ 65535))) ∧ w' = w := by
  by_cases h1 : 0 ≤ n <;> by_cases h2 : n ≤ 65535
  all_goals
    go_enter Tryz.func103, Tryz.ntmps103
    go_wp2
    go_ret
    exact ⟨ret_bool (by simp [h1, h2]), rfl⟩

/-- The box of a part, and that nothing else has turned. -/
def Boxs (w0 w : World) (c : Array Value) : Prop := BoxT 27 w w0.heap.size c ∧ Kept w0.heap.size w0 w
theorem Boxs.kept {w0 w w' : World} {c : Array Value} (h : Boxs w0 w c) (hk : Kept w0.heap.size w w') : Boxs w0 w' c := ⟨h.1.kept hk (by decide), h.2.trans hk⟩
theorem Boxs.alloc {w0 w : World} {c : Array Value} (h : Boxs w0 w c) (o : Obj) : Boxs w0 (w.alloc o) c := ⟨h.1.alloc _, h.2.alloc _⟩
theorem Boxs.drew {w0 w : World} {c : Array Value} (h : Boxs w0 w c) : Boxs w0 w.drew c := ⟨h.1, h.2.drew⟩
theorem Boxs.new (w : World) (c : Array Value) : Boxs w (w.alloc (.cells c 27)) c := ⟨BoxT.new _ _ _, (Kept.refl _ _).alloc _⟩
theorem Boxs.size {w0 w : World} {c : Array Value} (h : Boxs w0 w c) : w0.heap.size < w.heap.size := h.1.lt
theorem Boxs.size' {w0 w : World} {c : Array Value} (h : Boxs w0 w c) : w0.heap.size ≤ w.heap.size := Nat.le_of_lt h.1.lt
theorem Boxs.reads {w0 w : World} {c0 c1 c2 c3 c4 c5 : Value} (h : Boxs w0 w #[c0, c1, c2, c3, c4, c5]) :
    (w.cell? ⟨w0.heap.size, 0, none⟩ = some c0 ∧ w.cell? ⟨w0.heap.size, 1, none⟩ = some c1 ∧ w.cell? ⟨w0.heap.size, 2, none⟩ = some c2) ∧ Boxs w0 w #[c0, c1, c2, c3, c4, c5] := by
  obtain ⟨d0, d1, d2, _⟩ := h.1.cells6
  exact ⟨⟨d0, d1, d2⟩, h⟩
theorem Own.of_block {base g n cap : Nat} {w w' : World} {l : List Nat} (h : Own base w (.slice (some ⟨g, 0, none⟩) n cap) l) (hb : w'.heap[g]? = w.heap[g]?) : Own base w' (.slice (some ⟨g, 0, none⟩) n cap) l := by
  refine ⟨h.1, ?_⟩
  rcases h.2 with h | ⟨g', cap', cur, h1, h2, h3, h4⟩
  · exact .inl h
  · simp only [Value.slice.injEq, Option.some.injEq, Addr.mk.injEq, and_true] at h1
    obtain ⟨rfl, rfl, rfl⟩ := h1
    exact .inr ⟨g, cap, cur, rfl, h2, by rw [hb]; exact h3, h4⟩
theorem put_fine_at (base x : Nat) (v : Value) (l : List Nat) (sz m : Int) (w : World) (h0 : 0 ≤ sz) (hs : sz ≤ 8) (hm : 0 ≤ m) (hl : l.length ≤ 1000000000) (hb : base ≤ w.heap.size) (hown : Own base w v l) (hx : x < w.heap.size) (hne : Hid (v.ownBlock ≠ some x)) :
    Calls Tryz.prog 104 #[v, .int .i64 sz, .int .u64 m] w fun e w' => ∃ v', e = .returned v' ∧ Own base w' v' (l ++ be sz.toNat m.toNat) ∧ KeptX base x w w' v' := by
  obtain ⟨a, rfl⟩ := Int.eq_ofNat_of_zero_le h0
  obtain ⟨b, rfl⟩ := Int.eq_ofNat_of_zero_le hm
  exact put_fine base x v l a b w (by omega) hl hb hown hx hne
/-- A pane's box beside. -/
def Boxp (w0 : World) (k : Nat) (w : World) (c p : Array Value) : Prop := BoxT 145 w k p ∧ Boxs w0 w c
theorem Boxp.kept {w0 w w' : World} {k : Nat} {c p : Array Value} (h : Boxp w0 k w c p) (hk : Kept w0.heap.size w w') : Boxp w0 k w' c p := ⟨h.1.kept hk (by decide), h.2.kept hk⟩
theorem Boxp.drew {w0 w : World} {k : Nat} {c p : Array Value} (h : Boxp w0 k w c p) : Boxp w0 k w.drew c p := ⟨h.1, h.2.drew⟩
theorem Boxp.new {w0 w : World} {c : Array Value} (h : Boxs w0 w c) (p : Array Value) : Boxp w0 w.heap.size (w.alloc (.cells p 145)) c p := ⟨BoxT.new _ _ _, h.alloc _⟩
theorem Boxp.reads {w0 w : World} {k : Nat} {c : Array Value} {p0 p1 p2 p3 : Value} (h : Boxp w0 k w c #[p0, p1, p2, p3]) :
    (w.cell? ⟨k, 0, none⟩ = some p0 ∧ w.cell? ⟨k, 1, none⟩ = some p1 ∧ w.cell? ⟨k, 2, none⟩ = some p2 ∧ w.cell? ⟨k, 3, none⟩ = some p3) ∧ Boxp w0 k w c #[p0, p1, p2, p3] := ⟨h.1.cells4, h⟩
theorem Boxp.size {w0 w : World} {k : Nat} {c p : Array Value} (h : Boxp w0 k w c p) : w0.heap.size ≤ w.heap.size := h.2.size'
theorem fitsO_of {xs : List Ot} {x : Ot} {k : Nat} (h : xs[k]? = some x) (hf : x.fits = false) : fitsO xs = false := by
  unfold fitsO
  rw [List.all_eq_false]
  exact ⟨x, List.mem_of_getElem? h, by rw [hf]; decide⟩

set_option maxHeartbeats 8000000 in
set_option maxRecDepth 100000 in
theorem refSnap_any (s : Sn) (vm vp vc : Value) (w : World) (hu : ∀ o ∈ s.outs, 0 ≤ o.f.n) (hseg : SnSeg w.heap.size w vm vp vc s) :
    Calls Tryz.prog 74 #[.agg #[.int .i64 s.task, .int .i64 s.off, .int .i64 s.mark, vm, vp, vc]] w (WPost w (sEr s) (sOut s)) := by
  obtain ⟨am, cm, hvm, km, hm4⟩ := hseg.m
  obtain ⟨ap, cp, hvp, kp, hp4⟩ := hseg.p
  obtain ⟨ac, cc, hvc, kc, hc4⟩ := hseg.c
  subst hvm hvp hvc
  have HU : Hid (∀ o ∈ s.outs, 0 ≤ o.f.n) := hu
  have hb0 : Below w.heap.size w (w.alloc (.cells #[.int .i64 s.task, .int .i64 s.off, .int .i64 s.mark, .slice am s.marks.length cm, .slice ap s.panes.length cp, .slice ac s.outs.length cc] 27)) := (Below.refl _ _).alloc (Nat.le_refl _) _
  have HM4 : Hid (s.marks = [] ∨ ∃ b off, am = some ⟨b, off, none⟩ ∧ b < w.heap.size ∧ ∀ (i : Nat) (x : Int), s.marks[i]? = some x → ∀ (j : Nat) (u : Value), (ics x)[j]? = some u → w.cell? ⟨b, off + i * 1 + j, none⟩ = some u) := hm4
  have HP4 : Hid (s.panes = [] ∨ ∃ b off, ap = some ⟨b, off, none⟩ ∧ b < w.heap.size ∧ ∀ (i : Nat) (x : Pn), s.panes[i]? = some x → ∀ (j : Nat) (u : Value), (Pn.cs x)[j]? = some u → w.cell? ⟨b, off + i * 4 + j, none⟩ = some u) := hp4
  have HC4 : Hid (s.outs = [] ∨ ∃ b off, ac = some ⟨b, off, none⟩ ∧ b < w.heap.size ∧ ∀ (i : Nat) (x : Ot), s.outs[i]? = some x → ∀ (j : Nat) (u : Value), (Ot.cs x)[j]? = some u → w.cell? ⟨b, off + i * 8 + j, none⟩ = some u) := hc4
  have HS : True := trivial
  clear hseg hu hm4 hp4 hc4
  by_cases hp : 4096 < s.panes.length
  · skip
    have hbg : s.big = true := decide_eq_true (by omega)
    have e1 : sEr s = 12 := by unfold sEr; rw [hbg]; rfl
    have e2 : sOut s = [] := by unfold sOut; rw [hbg]; rfl
    rw [e1, e2]
    clear hbg e1 e2 HU HS
    go_enter Tryz.func74, Tryz.ntmps74
    go_wp2
    go_ret2
    exact WPost.mk (Own.nil _ _) hb0
  by_cases hc : 4096 < s.outs.length
  · skip
    have hbg : s.big = true := decide_eq_true (by omega)
    have e1 : sEr s = 12 := by unfold sEr; rw [hbg]; rfl
    have e2 : sOut s = [] := by unfold sOut; rw [hbg]; rfl
    rw [e1, e2]
    clear hbg e1 e2 HU HS
    go_enter Tryz.func74, Tryz.ntmps74
    go_wp2
    go_ret2
    exact WPost.mk (Own.nil _ _) hb0
  by_cases hm : 65535 < s.marks.length
  · skip
    have hbg : s.big = true := decide_eq_true (by omega)
    have e1 : sEr s = 12 := by unfold sEr; rw [hbg]; rfl
    have e2 : sOut s = [] := by unfold sOut; rw [hbg]; rfl
    rw [e1, e2]
    clear hbg e1 e2 HU HS
    go_enter Tryz.func74, Tryz.ntmps74
    go_wp2
    go_ret2
    exact WPost.mk (Own.nil _ _) hb0
  have hbg : s.big = false := decide_eq_false (by omega)
  have e1 : sEr s = if s.form then 0 else 10 := by unfold sEr; rw [hbg]; rfl
  have e2 : sOut s = if s.form then snb s else [] := by unfold sOut; rw [hbg]; rfl
  rw [e1, e2]
  clear hbg e1 e2
  rcases (short_b s.task).out with ht | ht
  case inr =>
    have hfm : s.form = false := by unfold Sn.form; rw [ht]; rfl
    rw [hfm]
    simp only [Bool.false_eq_true, if_false]
    clear hfm HU HS
    go_enter Tryz.func74, Tryz.ntmps74
    go_wp2_with fail
    refine (small_any s.task _).mono ?_
    rw [ht]
    rintro e w1 ⟨rfl, rfl⟩
    clear ht
    go_wp2
    go_ret2
    exact WPost.mk (Own.nil _ _) hb0
  rcases (short_b s.off).out with hf | hf
  case inr =>
    have hfm : s.form = false := by unfold Sn.form; rw [ht, hf]; rfl
    rw [hfm]
    simp only [Bool.false_eq_true, if_false]
    clear hfm HU HS
    go_enter Tryz.func74, Tryz.ntmps74
    go_wp2_with fail
    refine (small_any s.task _).mono ?_
    rw [ht]
    rintro e w1 ⟨rfl, rfl⟩
    clear ht
    go_wp2_with fail
    refine (small_any s.off _).mono ?_
    rw [hf]
    rintro e w1 ⟨rfl, rfl⟩
    clear hf
    go_wp2
    go_ret2
    exact WPost.mk (Own.nil _ _) hb0
  have hfo : s.form = fitsO s.outs := by unfold Sn.form; rw [ht, hf]; rfl
  rw [hfo]
  generalize hE : (if fitsO s.outs then (0 : Int) else 10) = er
  generalize hB : (if fitsO s.outs then snb s else []) = out
  have HE : Hid ((if fitsO s.outs then (0 : Int) else 10) = er) := hE
  have HOUT : Hid ((if fitsO s.outs then snb s else []) = out) := hB
  clear hE hB
  have HT : Hid (0 ≤ s.task ∧ s.task ≤ 65535) := by
    have := of_decide_eq_true ht
    exact this
  have HO : Hid (0 ≤ s.off ∧ s.off ≤ 65535) := by
    have := of_decide_eq_true hf
    exact this
  clear hfo HS hb0
  go_enter Tryz.func74, Tryz.ntmps74
  go_wp2_with fail
  refine (small_any s.task _).mono ?_
  rw [ht]
  rintro e w1 ⟨rfl, rfl⟩
  clear ht
  go_wp2_with fail
  refine (small_any s.off _).mono ?_
  rw [hf]
  rintro e w1 ⟨rfl, rfl⟩
  clear hf
  go_wp2_with fail
  have hw1 : IntKind.u64.wrap s.task = s.task := by rw [IntKind.wrap_u64]; have := HT.out; omega
  have hw2 : IntKind.u64.wrap s.off = s.off := by rw [IntKind.wrap_u64]; have := HO.out; omega
  have hwm : IntKind.u64.wrap (s.marks.length : Int) = s.marks.length := by rw [IntKind.wrap_u64]; omega
  have hwp : IntKind.u64.wrap (s.panes.length : Int) = s.panes.length := by rw [IntKind.wrap_u64]; omega
  have hwc : IntKind.u64.wrap (s.outs.length : Int) = s.outs.length := by rw [IntKind.wrap_u64]; omega
  go_region_held3 (fun w' => (w'.cell? ⟨w.heap.size, 0, none⟩ = some (.int .i64 s.task) ∧ w'.cell? ⟨w.heap.size, 1, none⟩ = some (.int .i64 s.off) ∧ w'.cell? ⟨w.heap.size, 2, none⟩ = some (.int .i64 s.mark)) ∧ Boxs w w' #[.int .i64 s.task, .int .i64 s.off, .int .i64 s.mark, .slice am s.marks.length cm, .slice ap s.panes.length cp, .slice ac s.outs.length cc])
    ((first | exact Boxs.reads (by assumption) | exact Boxs.reads (Boxs.drew (Boxs.new _ _))))
    (first | (go_at_call 104; refine (put_of (base := w.heap.size) (by first | assumption | exact Own.nil _ _) (by first | exact Boxs.size' (by assumption) | (simp; omega) | simp) (by simp [be_length]) (by omega) (by omega) (by first | exact HT.out.1 | exact HO.out.1 | exact wrap_u64_nonneg _)).mono ?_; rintro e w1 ⟨v1, rfl, ho1, hk1⟩; have bx := Boxs.kept (And.right (by assumption)) hk1))
  obtain ⟨h0, hh0⟩ : ∃ h0 : List Nat, h0 = be 2 s.task.toNat ++ (be 2 s.off.toNat ++ sbe s.mark) := ⟨_, rfl⟩
  have HH0 : Hid (h0 = be 2 s.task.toNat ++ (be 2 s.off.toNat ++ sbe s.mark)) := hh0
  have hl0 : h0.length = 12 := by rw [hh0]; simp [be_length, sbe_len]
  have ho : Own w.heap.size w1 v1 h0 := by rw [hh0]; simpa [hw1, hw2, sbe] using ho1
  have HBX : Hid (Boxs w w1 #[.int .i64 s.task, .int .i64 s.off, .int .i64 s.mark, .slice am s.marks.length cm, .slice ap s.panes.length cp, .slice ac s.outs.length cc]) := bx
  have hz := bx.size
  obtain ⟨c0, c1, c2, c3, c4, c5⟩ := bx.1.cells6
  clear ho1 hk1 bx hh0
  go_wp2_with fail
  refine (put_of (base := w.heap.size) ho (by omega) (by omega) (by omega) (by omega) (by omega)).mono ?_
  rintro e w2 ⟨v2, rfl, ho2, hk2⟩
  have HO2 : Hid (Own w.heap.size w2 v2 (h0 ++ be 2 s.marks.length)) := ho2
  have HB2 : Hid (Boxs w w2 #[.int .i64 s.task, .int .i64 s.off, .int .i64 s.mark, .slice am s.marks.length cm, .slice ap s.panes.length cp, .slice ac s.outs.length cc]) := HBX.out.kept hk2
  clear ho2 hk2 ho c0 c1 c2 c3 c4 c5 HBX hz
  obtain ⟨c0, c1, c2, c3, c4, c5⟩ := HB2.out.1.cells6
  go_wp2_with fail
  go_loopw [4, 5] (fun v i wr => ∃ k : Nat, k ≤ s.marks.length ∧ i = .int .i64 k ∧ Hid (Own w.heap.size wr v ((h0 ++ be 2 s.marks.length) ++ (s.marks.take k).flatMap sbe)) ∧ Hid (Boxs w wr #[.int .i64 s.task, .int .i64 s.off, .int .i64 s.mark, .slice am s.marks.length cm, .slice ap s.panes.length cp, .slice ac s.outs.length cc])) (fun _ i _ => s.marks.length - (intOf i).toNat)
  case atStart => exact ⟨0, Nat.zero_le _, rfl, by show Own _ _ _ _; simpa using HO2.out, HB2⟩
  case round =>
    obtain ⟨k, hk, rfl, HOk, HBk⟩ := hrel
    have hzk := HBk.out.size
    clear c0 c1 c2 c3 c4 c5 HO2 HB2
    obtain ⟨c0, c1, c2, c3, c4, c5⟩ := HBk.out.1.cells6
    have hlk : ((s.marks.take k).flatMap sbe).length ≤ 8 * k := by
      have := flat_len sbe 8 (fun n => Nat.le_of_eq (sbe_len n)) (s.marks.take k)
      rw [List.length_take] at this
      exact Nat.le_trans this (Nat.mul_le_mul_left _ (Nat.min_le_left _ _))
    by_cases hlt : k < s.marks.length
    · obtain ⟨x, hx⟩ : ∃ x : Int, s.marks[k]? = some x := ⟨_, List.getElem?_eq_getElem hlt⟩
      have hH : ∃ b off, am = some ⟨b, off, none⟩ ∧ wr.cell? ⟨b, off + k, none⟩ = some (.int .i64 x) := by
        rcases HM4.out with h | ⟨b, off, h5, h6, h7⟩
        · rw [h] at hlt; simp at hlt
        · refine ⟨b, off, h5, ?_⟩
          have := h7 k x hx 0 _ rfl
          rw [Nat.mul_one, Nat.add_zero] at this
          exact (World.cell?_of_block (HBk.out.2.block b h6 (.inl h6))).trans this
      obtain ⟨b, off, hao, hcx⟩ := hH
      have HX : Hid (s.marks[k]? = some x) := hx
      subst hao
      clear hx
      go_wp2_with fail
      refine (put_of (base := w.heap.size) HOk.out (by omega) (by simp only [List.length_append, be_length]; omega) (by omega) (by omega) (wrap_u64_nonneg _)).mono ?_
      rintro e w3 ⟨v3, rfl, ho3, hk3⟩
      have HO3 : Hid (Own w.heap.size w3 v3 ((h0 ++ be 2 s.marks.length) ++ (s.marks.take (k + 1)).flatMap sbe)) := by
        show Own _ _ _ _
        rw [flat_snoc sbe s.marks k x HX.out, ← List.append_assoc]; exact ho3
      have HB3 : Hid (Boxs w w3 #[.int .i64 s.task, .int .i64 s.off, .int .i64 s.mark, .slice (some ⟨b, off, none⟩) s.marks.length cm, .slice ap s.panes.length cp, .slice ac s.outs.length cc]) := HBk.out.kept hk3
      clear ho3 hk3
      go_wp2
      go_roundw
      case rel => exact ⟨k + 1, by omega, by go_num, HO3, HB3⟩
      case measure => simp [intOf]; omega
    · have HOk : Hid (Own w.heap.size wr u4 (h0 ++ (be 2 s.marks.length ++ s.marks.flatMap sbe))) := by
        have := HOk.out
        rw [List.take_of_length_le (by omega), List.append_assoc] at this
        exact this
      have hlm : (s.marks.flatMap sbe).length ≤ 8 * s.marks.length := flat_len sbe 8 (fun n => Nat.le_of_eq (sbe_len n)) _
      go_wp2_with fail
      refine (put_of (base := w.heap.size) HOk.out (by omega) (by simp only [List.length_append, be_length]; omega) (by omega) (by omega) (by omega)).mono ?_
      rintro e w3 ⟨v3, rfl, ho3, hk3⟩
      obtain ⟨h1, hh1⟩ : ∃ h1 : List Nat, h1 = h0 ++ (be 2 s.marks.length ++ s.marks.flatMap sbe) := ⟨_, rfl⟩
      have HH1 : Hid (h1 = h0 ++ (be 2 s.marks.length ++ s.marks.flatMap sbe)) := hh1
      have hl1 : h1.length ≤ 600000 := by rw [hh1]; simp only [List.length_append, be_length]; omega
      have HO3 : Hid (Own w.heap.size w3 v3 (h1 ++ be 2 s.panes.length)) := by
        show Own _ _ _ _
        rw [hh1]; exact ho3
      have HB3 : Hid (Boxs w w3 #[.int .i64 s.task, .int .i64 s.off, .int .i64 s.mark, .slice am s.marks.length cm, .slice ap s.panes.length cp, .slice ac s.outs.length cc]) := HBk.out.kept hk3
      clear ho3 hk3 hh1 hlm hlk HOk HBk c0 c1 c2 c3 c4 c5 hzk
      obtain ⟨c0, c1, c2, c3, c4, c5⟩ := HB3.out.1.cells6
      obtain ⟨wo, hwo⟩ : ∃ wo : World, wo = wr := ⟨_, rfl⟩
      clear hwo wo
      go_wp2_with fail
      go_loopw [4, 6] (fun v i wr => ∃ k : Nat, k ≤ s.panes.length ∧ i = .int .i64 k ∧ Hid (Own w.heap.size wr v ((h1 ++ be 2 s.panes.length) ++ (s.panes.take k).flatMap pnb)) ∧ Hid (Boxs w wr #[.int .i64 s.task, .int .i64 s.off, .int .i64 s.mark, .slice am s.marks.length cm, .slice ap s.panes.length cp, .slice ac s.outs.length cc])) (fun _ i _ => s.panes.length - (intOf i).toNat)
      case atStart => exact ⟨0, Nat.zero_le _, rfl, by show Own _ _ _ _; simpa using HO3.out, HB3⟩
      case round =>
        obtain ⟨k, hk, rfl, HOk, HBk⟩ := hrel
        have hzk := HBk.out.size
        clear c0 c1 c2 c3 c4 c5 HO3 HB3
        obtain ⟨c0, c1, c2, c3, c4, c5⟩ := HBk.out.1.cells6
        have hlk : ((s.panes.take k).flatMap pnb).length ≤ 32 * k := by
          have := flat_len pnb 32 (fun n => Nat.le_of_eq (pnb_len n)) (s.panes.take k)
          rw [List.length_take] at this
          exact Nat.le_trans this (Nat.mul_le_mul_left _ (Nat.min_le_left _ _))
        by_cases hlt : k < s.panes.length
        · obtain ⟨⟨ke, fr, to, ac0⟩, hx⟩ : ∃ x : Pn, s.panes[k]? = some x := ⟨_, List.getElem?_eq_getElem hlt⟩
          have hH : ∃ b off, ap = some ⟨b, off, none⟩ ∧ wr.cell? ⟨b, off + k * 4, none⟩ = some (.int .i64 ke) ∧ wr.cell? ⟨b, off + k * 4 + 1, none⟩ = some (.int .i64 fr) ∧ wr.cell? ⟨b, off + k * 4 + 2, none⟩ = some (.int .i64 to) ∧ wr.cell? ⟨b, off + k * 4 + 3, none⟩ = some (.int .i64 ac0) := by
            rcases HP4.out with h | ⟨b, off, h5, h6, h7⟩
            · rw [h] at hlt; simp at hlt
            · have hh : ∀ (j : Nat) (u : Value), (Pn.cs ⟨ke, fr, to, ac0⟩)[j]? = some u → wr.cell? ⟨b, off + k * 4 + j, none⟩ = some u := fun j u hu => (World.cell?_of_block (HBk.out.2.block b h6 (.inl h6))).trans (h7 k _ hx j u hu)
              exact ⟨b, off, h5, hh 0 _ rfl, hh 1 _ rfl, hh 2 _ rfl, hh 3 _ rfl⟩
          obtain ⟨b, off, hao, hx0, hx1, hx2, hx3⟩ := hH
          have HX : Hid (s.panes[k]? = some ⟨ke, fr, to, ac0⟩) := hx
          subst hao
          clear hx
          go_wp2_with fail
          go_region_held3 (fun w' => (w'.cell? ⟨wr.heap.size, 0, none⟩ = some (.int .i64 ke) ∧ w'.cell? ⟨wr.heap.size, 1, none⟩ = some (.int .i64 fr) ∧ w'.cell? ⟨wr.heap.size, 2, none⟩ = some (.int .i64 to) ∧ w'.cell? ⟨wr.heap.size, 3, none⟩ = some (.int .i64 ac0)) ∧ Boxp w wr.heap.size w' #[.int .i64 s.task, .int .i64 s.off, .int .i64 s.mark, .slice am s.marks.length cm, .slice (some ⟨b, off, none⟩) s.panes.length cp, .slice ac s.outs.length cc] #[.int .i64 ke, .int .i64 fr, .int .i64 to, .int .i64 ac0])
            ((first | exact Boxp.reads (by assumption) | exact Boxp.reads (Boxp.drew (Boxp.new HBk.out _))))
            (first | (go_at_call 104; refine (put_of (base := w.heap.size) (by first | assumption | exact (HOk.out.alloc _).drew) (by first | exact Boxp.size (by assumption) | exact Boxp.size (And.right (by assumption))) (by simp only [List.length_append, be_length]; omega) (by omega) (by omega) (wrap_u64_nonneg _)).mono ?_; rintro e w1 ⟨v1, rfl, ho1, hk1⟩; have bx := Boxp.kept (And.right (by assumption)) hk1))
          have HO3 : Hid (Own w.heap.size w1 v1 ((h1 ++ be 2 s.panes.length) ++ (s.panes.take (k + 1)).flatMap pnb)) := by
            show Own _ _ _ _
            rw [flat_snoc pnb s.panes k _ HX.out]
            simpa [pnb, sbe] using ho1
          have HB3 : Hid (Boxs w w1 #[.int .i64 s.task, .int .i64 s.off, .int .i64 s.mark, .slice am s.marks.length cm, .slice (some ⟨b, off, none⟩) s.panes.length cp, .slice ac s.outs.length cc]) := bx.2
          clear ho1 hk1 bx hx0 hx1 hx2 hx3
          go_wp2
          go_roundw
          case rel => exact ⟨k + 1, by omega, by go_num, HO3, HB3⟩
          case measure => simp [intOf]; omega
        · have HOk : Hid (Own w.heap.size wr u4 (h1 ++ (be 2 s.panes.length ++ s.panes.flatMap pnb))) := by
            have := HOk.out
            rw [List.take_of_length_le (by omega), List.append_assoc] at this
            exact this
          have hlp : (s.panes.flatMap pnb).length ≤ 32 * s.panes.length := flat_len pnb 32 (fun n => Nat.le_of_eq (pnb_len n)) _
          go_wp2_with fail
          refine (put_of (base := w.heap.size) HOk.out (by omega) (by simp only [List.length_append, be_length]; omega) (by omega) (by omega) (by omega)).mono ?_
          rintro e w3 ⟨v3, rfl, ho3, hk3⟩
          obtain ⟨h2, hh2⟩ : ∃ h2 : List Nat, h2 = h1 ++ (be 2 s.panes.length ++ s.panes.flatMap pnb) := ⟨_, rfl⟩
          have HH2 : Hid (h2 = h1 ++ (be 2 s.panes.length ++ s.panes.flatMap pnb)) := hh2
          have hl2 : h2.length ≤ 800000 := by rw [hh2]; simp only [List.length_append, be_length]; omega
          have HO3 : Hid (Own w.heap.size w3 v3 (h2 ++ be 2 s.outs.length)) := by
            show Own _ _ _ _
            rw [hh2]; exact ho3
          have HB3 : Hid (Boxs w w3 #[.int .i64 s.task, .int .i64 s.off, .int .i64 s.mark, .slice am s.marks.length cm, .slice ap s.panes.length cp, .slice ac s.outs.length cc]) := HBk.out.kept hk3
          clear ho3 hk3 hh2 hlp hlk HOk HBk c0 c1 c2 c3 c4 c5 hzk
          obtain ⟨c0, c1, c2, c3, c4, c5⟩ := HB3.out.1.cells6
          go_wp2_with fail
          go_loopw [4, 8] (fun v i wr => ∃ k : Nat, k ≤ s.outs.length ∧ i = .int .i64 k ∧ Hid (fitsO (s.outs.take k) = true) ∧ Hid (Own w.heap.size wr v ((h2 ++ be 2 s.outs.length) ++ (s.outs.take k).flatMap otb)) ∧ Hid (Boxs w wr #[.int .i64 s.task, .int .i64 s.off, .int .i64 s.mark, .slice am s.marks.length cm, .slice ap s.panes.length cp, .slice ac s.outs.length cc])) (fun _ i _ => s.outs.length - (intOf i).toNat)
          case atStart => exact ⟨0, Nat.zero_le _, rfl, rfl, by show Own _ _ _ _; simpa using HO3.out, HB3⟩
          case round =>
            obtain ⟨k, hk, rfl, HFk, HOk, HBk⟩ := hrel
            have hzk := HBk.out.size
            clear c0 c1 c2 c3 c4 c5 HO3 HB3
            obtain ⟨c0, c1, c2, c3, c4, c5⟩ := HBk.out.1.cells6
            have hlk : ((s.outs.take k).flatMap otb).length ≤ 27 * k := by
              have := flat_len otb 27 otb_len (s.outs.take k)
              rw [List.length_take] at this
              exact Nat.le_trans this (Nat.mul_le_mul_left _ (Nat.min_le_left _ _))
            by_cases hlt : k < s.outs.length
            · obtain ⟨x, hx⟩ : ∃ x : Ot, s.outs[k]? = some x := ⟨_, List.getElem?_eq_getElem hlt⟩
              have hun := HU.out x (List.mem_of_getElem? hx)
              have HXO : Hid (x.fits = (decide (0 ≤ x.ch ∧ x.ch ≤ 65535) && fits x.f.kd x.f.ke x.f.ti x.f.va x.f.ma x.f.n x.f.ov)) := rfl
              have HXB : Hid (otb x = be 2 x.ch.toNat ++ frb x.f.kd x.f.ke x.f.ti x.f.va x.f.ma x.f.n x.f.ov) := rfl
              have HX : Hid (s.outs[k]? = some x) := hx
              have hH : ∃ b off, ac = some ⟨b, off, none⟩ ∧ b < w.heap.size ∧ Hid (∀ (j : Nat) (u : Value), (Ot.cs x)[j]? = some u → w.cell? ⟨b, off + k * 8 + j, none⟩ = some u) := by
                rcases HC4.out with h | ⟨b, off, h5, h6, h7⟩
                · rw [h] at hlt; simp at hlt
                · exact ⟨b, off, h5, h6, h7 k _ hx⟩
              obtain ⟨b, off, hao, hbw, HCX⟩ := hH
              subst hao
              clear hx
              have hcw : ∀ (W : World), Boxs w W #[.int .i64 s.task, .int .i64 s.off, .int .i64 s.mark, .slice am s.marks.length cm, .slice ap s.panes.length cp, .slice (some ⟨b, off, none⟩) s.outs.length cc] → ∀ (j : Nat) (u : Value), (Ot.cs x)[j]? = some u → W.cell? ⟨b, off + k * 8 + j, none⟩ = some u := fun W hW j u hu => (World.cell?_of_block (hW.2.block b hbw (.inl hbw))).trans (HCX.out j u hu)
              have HCW : Hid (∀ (W : World), Boxs w W #[.int .i64 s.task, .int .i64 s.off, .int .i64 s.mark, .slice am s.marks.length cm, .slice ap s.panes.length cp, .slice (some ⟨b, off, none⟩) s.outs.length cc] → ∀ (j : Nat) (u : Value), (Ot.cs x)[j]? = some u → W.cell? ⟨b, off + k * 8 + j, none⟩ = some u) := hcw
              have x0 : wr.cell? ⟨b, off + k * 8, none⟩ = some (.int .i64 x.ch) := hcw wr HBk.out 0 _ rfl
              have x1 : wr.cell? ⟨b, off + k * 8 + 1, none⟩ = some (.int .i64 x.f.kd) := hcw wr HBk.out 1 _ rfl
              have x2 : wr.cell? ⟨b, off + k * 8 + 2, none⟩ = some (.int .i64 x.f.ke) := hcw wr HBk.out 2 _ rfl
              have x3 : wr.cell? ⟨b, off + k * 8 + 3, none⟩ = some (.int .i64 x.f.ti) := hcw wr HBk.out 3 _ rfl
              have x4 : wr.cell? ⟨b, off + k * 8 + 4, none⟩ = some (.int .i64 x.f.va) := hcw wr HBk.out 4 _ rfl
              have x5 : wr.cell? ⟨b, off + k * 8 + 5, none⟩ = some (.int .i64 x.f.ma) := hcw wr HBk.out 5 _ rfl
              have x6 : wr.cell? ⟨b, off + k * 8 + 6, none⟩ = some (.int .u64 x.f.n) := hcw wr HBk.out 6 _ rfl
              have x7 : wr.cell? ⟨b, off + k * 8 + 7, none⟩ = some (.bool x.f.ov) := hcw wr HBk.out 7 _ rfl
              clear hcw
              go_wp2_with fail
              refine (refFrame_any x.f.kd x.f.ke x.f.ti x.f.va x.f.ma x.f.n x.f.ov wr hun).mono ?_
              clear x0 x1 x2 x3 x4 x5 x6 x7 c0 c1 c2 c3 c4 c5
              rintro e w4 (⟨hfit, vf, rfl, hof, hbf⟩ | ⟨hfit, rfl, hbf⟩)
              · have HFIT : Hid (fits x.f.kd x.f.ke x.f.ti x.f.va x.f.ma x.f.n x.f.ov = true) := hfit
                have HB4 : Hid (Boxs w w4 #[.int .i64 s.task, .int .i64 s.off, .int .i64 s.mark, .slice am s.marks.length cm, .slice ap s.panes.length cp, .slice (some ⟨b, off, none⟩) s.outs.length cc]) := HBk.out.kept (Kept.of_below hbf)
                have HO4 : Hid (Own w.heap.size w4 u4 ((h2 ++ be 2 s.outs.length) ++ (s.outs.take k).flatMap otb)) := HOk.out.below hbf (Nat.le_refl _)
                have hflen := frb_len x.f.kd x.f.ke x.f.ti x.f.va x.f.ma x.f.n x.f.ov
                have hfne : frb x.f.kd x.f.ke x.f.ti x.f.va x.f.ma x.f.n x.f.ov ≠ [] := by
                  unfold frb
                  split
                  · simp
                  split
                  · simp
                  · simp
                obtain ⟨gf, capf, hvf, g1, g2, g3, g4⟩ := hof.shape hfne
                have HNE : Hid (u4.ownBlock ≠ some gf) := by
                  show _ ≠ _
                  intro e
                  have := (World.ownsRow.lt HOk.out gf e).2
                  omega
                rw [hvf] at hof ⊢
                have HOF : Hid (Own wr.heap.size w4 (.slice (some ⟨gf, 0, none⟩) (frb x.f.kd x.f.ke x.f.ti x.f.va x.f.ma x.f.n x.f.ov).length capf) (frb x.f.kd x.f.ke x.f.ti x.f.va x.f.ma x.f.n x.f.ov)) := hof
                have hz4 := hbf.size
                clear hfit hof hbf hfne HBk HOk hvf
                obtain ⟨c0, c1, c2, c3, c4, c5⟩ := HB4.out.1.cells6
                have x0 : w4.cell? ⟨b, off + k * 8, none⟩ = some (.int .i64 x.ch) := HCW.out w4 HB4.out 0 _ rfl
                rcases (short_b x.ch).out with hch | hch
                · have HCH : Hid (0 ≤ x.ch ∧ x.ch ≤ 65535) := by
                    have := of_decide_eq_true hch
                    exact this
                  have hwx : IntKind.u64.wrap x.ch = x.ch := by rw [IntKind.wrap_u64]; have := HCH.out; omega
                  go_wp2_with fail
                  refine (small_any x.ch _).mono ?_
                  rw [hch]
                  rintro e w5 ⟨rfl, rfl⟩
                  have HCHB : Hid (decide (0 ≤ x.ch ∧ x.ch ≤ 65535) = true) := hch
                  clear hch
                  go_wp2_with fail
                  refine (put_fine_at w.heap.size gf u4 _ _ x.ch _ (by omega) (by omega) HCH.out.1 (by simp only [List.length_append, be_length]; omega) (by omega) HO4.out g2 HNE).mono ?_
                  rintro e w6 ⟨v6, rfl, ho6, hk6⟩
                  have HB6 : Hid (Boxs w w6 #[.int .i64 s.task, .int .i64 s.off, .int .i64 s.mark, .slice am s.marks.length cm, .slice ap s.panes.length cp, .slice (some ⟨b, off, none⟩) s.outs.length cc]) := HB4.out.kept hk6.k
                  have hsf := (HOF.out.of_block hk6.b).seg (by omega)
                  have hz6 := hk6.k.size
                  clear hk6 c0 c1 c2 c3 c4 c5 x0
                  go_wp2_with (first | (at_builtin; refine app_seg rfl _ _ rfl w.heap.size _ _ rfl ho6 _ (frb x.f.kd x.f.ke x.f.ti x.f.va x.f.ma x.f.n x.f.ov) rfl hsf (by simp only [List.length_append, be_length]; omega) (by omega) ?_) | fail)
                  intro v7 w7 ho7 hk7
                  have HO7 : Hid (Own w.heap.size w7 v7 ((h2 ++ be 2 s.outs.length) ++ (s.outs.take (k + 1)).flatMap otb)) := by
                    show Own _ _ _ _
                    rw [flat_snoc otb s.outs k x HX.out, HXB.out]
                    simpa using ho7
                  have HB7 : Hid (Boxs w w7 #[.int .i64 s.task, .int .i64 s.off, .int .i64 s.mark, .slice am s.marks.length cm, .slice ap s.panes.length cp, .slice (some ⟨b, off, none⟩) s.outs.length cc]) := HB6.out.kept hk7
                  have HF7 : Hid (fitsO (s.outs.take (k + 1)) = true) := by
                    show _ = _
                    rw [fitsO_succ s.outs k x HX.out, HFk.out, HXO.out, HFIT.out, HCHB.out]; rfl
                  clear ho7 hk7 ho6 hsf
                  go_wp2
                  go_roundw
                  case rel => exact ⟨k + 1, by omega, by go_num, HF7, HO7, HB7⟩
                  case measure => simp [intOf]; omega
                · have hff : fitsO s.outs = false := fitsO_of HX.out (by rw [HXO.out, hch]; rfl)
                  have HP : Hid (WPost w er out (.returned (.tuple #[.slice none 0 0, .int .i64 10])) w4) := by
                    show WPost _ _ _ _ _
                    rw [← HE.out, ← HOUT.out, hff]
                    exact WPost.mk (Own.nil _ _) (HB4.out.2.below (Nat.le_refl _))
                  clear hff
                  go_wp2_with fail
                  refine (small_any x.ch _).mono ?_
                  rw [hch]
                  rintro e w5 ⟨rfl, rfl⟩
                  clear hch
                  go_wp2
                  go_ret2
                  exact HP.out
              · have hff : fitsO s.outs = false := fitsO_of HX.out (by rw [HXO.out, hfit]; simp)
                have HP : Hid (WPost w er out (.returned (.tuple #[.slice none 0 0, .int .i64 10])) w4) := by
                  show WPost _ _ _ _ _
                  rw [← HE.out, ← HOUT.out, hff]
                  exact WPost.mk (Own.nil _ _) ((HBk.out.kept (Kept.of_below hbf)).2.below (Nat.le_refl _))
                clear hff hfit hbf
                go_wp2
                go_ret2
                exact HP.out
            · have HP : Hid (WPost w er out (.returned (.tuple #[u4, .int .i64 0])) wr) := by
                show WPost _ _ _ _ _
                have hft := HFk.out
                rw [List.take_of_length_le (by omega)] at hft
                rw [← HE.out, ← HOUT.out, hft]
                refine WPost.mk ?_ (HBk.out.2.below (Nat.le_refl _))
                have := HOk.out
                rw [List.take_of_length_le (by omega), HH2.out, HH1.out, HH0.out] at this
                simpa [snb] using this
              go_wp2
              go_ret2
              exact HP.out
end Go.Proofs.YtbfhcbihgleddaaGreatDoor
