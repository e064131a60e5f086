/-
  Texts of the vault, in build order: Seal, Opens.
-/
import Derived.Test.YtbfhcbihgleddaaGreatDoorM04
import Derived.Laws.AppendOwnNone
import Derived.Lib.SliceRun
namespace Go
section
variable {P : Program} {w : World}
theorem run_append_none_any (base : Nat) (t ty e : TypeId) (i : TypeInfo) (size : Nat) (ht : P.underlying t = some (.slice e)) (hi : P.info? e = some i)
    (v : Value) (n : Nat) (xs : List Value) (hown : w.ownsRow base e size v n xs) (c : Nat) :
    (Builtin.append_ #[t, t] ty #[v, .slice none 0 c]).run P w = .ok v w := by
  rcases hown.2 with ⟨rfl, rfl⟩ | ⟨g, cap, cur, rfl, _, _, hnc, _⟩
  · simp [Builtin.append_, run_underlying ht, sizeOf, typeInfo, hi, Builtin.lenOf, Builtin.firstCells]
  · simp [Builtin.append_, run_underlying ht, sizeOf, typeInfo, hi, Builtin.lenOf, Builtin.firstCells, hnc, storeCells]
theorem wpList_append_none_any {ops : Array Oper} {rest : List Oper} {o : Oper} {a : Act} {Q : Exit → Act → World → Prop} (hgd : o.guard = none) (s x : Operand) (t : TypeId)
    (ho : o.op = .call { callee := .builtin .append, args := #[s, x], argTypes := #[t, t] })
    (base : Nat) (e : TypeId) (i : TypeInfo) (size : Nat) (ht : P.underlying t = some (.slice e)) (hi : P.info? e = some i)
    (v : Value) (n : Nat) (xs : List Value) (hs : a.eval s = v) (hown : w.ownsRow base e size v n xs) (c : Nat) (hx : a.eval x = .slice none 0 c)
    (h : wpList P ops Q rest (a.put o.dst v) w) : wpList P ops Q (o :: rest) a w := by
  refine wpList_plain hgd fun K hK => ?_
  have hrun := run_append_none_any (P := P) (w := w) base t o.type e i size ht hi v n xs hown c
  unfold Oper.wp
  simp [execOp, ho, resolve, invoke, builtin, hs, hx, hrun, Result.andThen]
  exact hK _ _ h
end
end Go
namespace Go.Proofs.YtbfhcbihgleddaaGreatDoor
open Go.RowKit

theorem add_plain2 (b o i : Nat) : (⟨b, o, none⟩ : Addr).add i = ⟨b, o + i, none⟩ := by unfold Addr.add; split <;> simp_all
/-- append's law at rows of bytes, whatever the source. -/
theorem app_seg {w : World} {ops : Array Oper} {rest : List Oper} {o : Oper} {a : Act} {Q : Exit → Act → World → Prop} (hgd : o.guard = none) (s x : Operand)
    (ho : o.op = .call { callee := .builtin .append, args := #[s, x], argTypes := #[22, 22] }) (base : Nat) (v : Value) (l : List Nat) (hs : a.eval s = v) (hown : Own base w v l)
    (vx : Value) (m : List Nat) (hx : a.eval x = vx) (hseg : Seg w vx m) (hl : l.length + m.length ≤ 100000000000) (hbase : base ≤ w.heap.size)
    (h : ∀ v' w', Own base w' v' (l ++ m) → Kept base w w' → wpList Tryz.prog ops Q rest (a.put o.dst v') w') : wpList Tryz.prog ops Q (o :: rest) a w := by
  obtain ⟨ao, cap, rfl, h1, h2, h3, h4⟩ := hseg
  rcases ao with _ | ad
  · have hm : m = [] := by
      rcases h4 with h4 | ⟨b, off, h5, _⟩
      · exact h4
      · cases h5
    subst hm
    obtain ⟨i0, hi, hz0, hz1, hz2⟩ := info_parts Tryz.info5
    refine wpList_append_none_any hgd s x 22 ho base 5 i0 1 Tryz.underlying22 hi v l.length (bs l) hs hown cap hx (h v w ?_ (Kept.refl _ _))
    rw [List.append_nil]; exact hown
  · refine app_own hgd s x ho base v l hs hown ad cap m hx ?_ hl hbase h
    intro j hj
    rcases h4 with h4 | ⟨b, off, h5, _, h6⟩
    · subst h4; cases hj
    · cases h5
      have := h6 j _ (List.getElem?_eq_getElem hj)
      rw [add_plain2]; exact this

theorem Own.seg {base : Nat} {w : World} {v : Value} {l : List Nat} (h : Own base w v l) (hl : l.length ≤ 140737488355328) : Seg w v l := by
  by_cases h0 : l = []
  · subst h0
    rcases h.2 with ⟨rfl, _⟩ | ⟨g, cap, cur, rfl, h2, h3, h4, h5, _⟩
    · exact Seg.nil w
    · exact ⟨_, cap, rfl, by simp, h5, by simp, .inl rfl⟩
  · obtain ⟨g, cap, rfl, h2, h3, h4, h5⟩ := h.shape h0
    refine ⟨_, cap, rfl, h4, h5, hl, .inr ⟨g, 0, rfl, h3, fun i x hx => ?_⟩⟩
    obtain ⟨hi, rfl⟩ := List.getElem?_eq_some_iff.1 hx
    rw [Nat.zero_add]; exact h.cellAt i hi
theorem Own.emp (base : Nat) (w : World) (hb : base ≤ w.heap.size) : Own base (w.alloc (.cells #[] 5)) (.slice (some ⟨w.heap.size, 0, none⟩) 0 0) [] :=
  World.ownsRow_lit (base := base) (e := 5) (size := 1) w #[] 0 hb (by unfold maxLen; omega) rfl

set_option maxHeartbeats 1000000 in
set_option maxRecDepth 100000 in
theorem Clone_any (v : Value) (l : List Nat) (w : World) (h : Seg w v l) (hl : l.length ≤ 10000000000) :
    Calls Tryz.prog 112 #[v] w fun e w' => ∃ v', e = .returned v' ∧ Own w.heap.size w' v' l ∧ Below w.heap.size w w' := by
  have h0 := h
  have qT : ∀ (w : World) (a : Option Addr) (n c n' c' : Nat), (binOp .eql 22 (.slice a n c) (.slice none n' c')).run Tryz.prog w = .ok (.bool a.isNone) w := fun w a n c n' c' => Lib.run_eql_slice_nil w _ _ a n c n' c' Tryz.underlying22
  obtain ⟨ao, cap, rfl, h1, h2, h3, h4⟩ := h
  rcases ao with _ | ad
  · have hm : l = [] := by
      rcases h4 with h4 | ⟨b, off, h5, _⟩
      · exact h4
      · cases h5
    subst hm
    clear h4 h0
    go_enter Tryz.func112, Tryz.ntmps112
    go_wp2
    go_ret
    exact ⟨_, rfl, Own.nil _ _, Below.refl _ _⟩
  · clear h4
    go_enter Tryz.func112, Tryz.ntmps112
    go_wp2_with (at_builtin; refine app_seg rfl _ _ rfl w.heap.size _ [] rfl (Own.emp _ _ (Nat.le_refl _)) _ l rfl (h0.alloc _) (by simp; omega) (by simp) ?_)
    intro v' w1 ho hk
    go_wp2
    go_ret
    exact ⟨_, rfl, by simpa using ho, ((Kept.refl _ _).alloc _ |>.trans hk).below (Nat.le_refl _)⟩

theorem Glob.below {w w' : World} {B : Nat} (h : Glob w) (hb : Below B w w') (hB : 0 < B) : Glob w' :=
  ⟨by have := hb.size; have := h.1; omega, fun j hj => (hb.cell (p := ⟨0, j, none⟩) hB).trans (h.2 j hj)⟩
theorem Glob.kept {w w' : World} {B : Nat} (h : Glob w) (hk : Kept B w w') (hB : 0 < B) : Glob w' :=
  ⟨by have := hk.size; have := h.1; omega, fun j hj => by
    rw [← h.2 j hj]
    exact World.cell?_of_block (hk.block 0 h.1 (.inl hB))⟩
theorem Seg.kept {w w' : World} {v : Value} {l : List Nat} {B : Nat} (h : SegB B w v l) (hk : Kept B w w') (hB : B ≤ w.heap.size) : SegB B w' v l := by
  obtain ⟨ao, cap, h1, h2, h3, h3', h4⟩ := h
  refine ⟨ao, cap, h1, h2, h3, h3', ?_⟩
  rcases h4 with h4 | ⟨b, off, h5, h6, h7⟩
  · exact .inl h4
  · exact .inr ⟨b, off, h5, h6, fun i x hi => (World.cell?_of_block (hk.block b (by omega) (.inl h6))).trans (h7 i x hi)⟩
theorem SegB.seg {w : World} {v : Value} {l : List Nat} {B : Nat} (h : SegB B w v l) (hB : B ≤ w.heap.size) : Seg w v l := by
  obtain ⟨ao, cap, h1, h2, h3, h3', h4⟩ := h
  refine ⟨ao, cap, h1, h2, h3, h3', ?_⟩
  rcases h4 with h4 | ⟨b, off, h5, h6, h7⟩
  · exact .inl h4
  · exact .inr ⟨b, off, h5, by omega, h7⟩
theorem Seg.segB {w : World} {v : Value} {l : List Nat} (h : Seg w v l) : SegB w.heap.size w v l := h

theorem crc_lt (l : List Nat) (hb : Byts l) : crc l < 4294967296 := by
  unfold crc
  refine xor_lt32 (by omega) ?_
  have : ∀ (m : List Nat) (c : Nat), Byts m → c < 4294967296 → m.foldl cstep c < 4294967296 := by
    intro m
    induction m with
    | nil => intro c _ hc; exact hc
    | cons x m ih =>
      intro c hm hc
      refine ih _ (fun i y hy => hm (i + 1) y (by simpa using hy)) ?_
      have hx : x < 256 := hm 0 x rfl
      have h1 : c ^^^ x < 4294967296 := xor_lt32 hc (by omega)
      have h2 : nstep (c ^^^ x) < 4294967296 := xor_lt32 (by omega) (nib_lt _)
      exact xor_lt32 (by omega) (nib_lt _)
  exact this l _ hb (by omega)

/-- A seal's bytes. -/
def sealed (l : List Nat) : List Nat := be 4 l.length ++ (be 4 (crc l) ++ l)

set_option maxHeartbeats 1000000 in
set_option maxRecDepth 100000 in
theorem Seal_any (v : Value) (l : List Nat) (w : World) (h : Seg w v l) (hb : Byts l) (hg : Glob w) (hl : l.length ≤ 1000000000) :
    Calls Tryz.prog 66 #[v] w fun e w' => ∃ v', e = .returned v' ∧ Own w.heap.size w' v' (sealed l) ∧ Below w.heap.size w w' := by
  have hsb := h.segB
  have hg0 := hg.1
  have HG : Hid (Glob w) := hg
  have HS : Hid (SegB w.heap.size w v l) := hsb
  obtain ⟨ao, cap, rfl, h1, h2, h3, h4⟩ := h
  clear h4 hg hsb
  obtain ⟨i0, hi, hz0, hz1, hz2⟩ := info_parts Tryz.info5
  have hw : IntKind.u64.wrap (l.length : Int) = l.length := by rw [IntKind.wrap_u64]; omega
  have hc := crc_lt l hb
  have hwc : IntKind.u64.wrap (crc l : Int) = crc l := by rw [IntKind.wrap_u64]; omega
  go_enter Tryz.func66, Tryz.ntmps66
  go_wp2_with (first | (at_make; refine wpList_make_own _ rfl _ _ 22 rfl w.heap.size 5 i0 (.int .u8 0) 1 Tryz.underlying22 hi hz0 hz1 .i64 .i64 _ (8 + l.length) rfl rfl (by omega) (by rw [hz2]; omega) (by unfold maxLen; omega) (Nat.le_refl _) ?_) | fail)
  intro w1 ho1 hgr1
  have ho1 : Own w.heap.size w1 (.slice (some ⟨w.heap.size, 0, none⟩) 0 (8 + l.length)) [] := ho1
  have hk1 : Kept w.heap.size w w1 := ⟨hgr1.os, hgr1.tape, hgr1.output, hgr1.size, fun k hk _ => hgr1.block k hk (by simp)⟩
  have hz1' := hk1.size
  clear hgr1
  go_wp2_with fail
  refine (writeNumber_at w.heap.size _ [] _ _ w1 (by omega) (by omega) (by omega) (by simp) (by omega) ho1).mono ?_
  rintro e w2 ⟨v2, rfl, ho2, hk2⟩
  have hk := hk1.trans hk2
  have hz2' := hk.size
  clear ho1 hk1 hk2 hz1'
  go_wp2_with fail
  refine (Sum_any _ l w2 ((Seg.kept HS.out hk (Nat.le_refl _)).seg (by omega)) hb (HG.out.kept hk hg0)).mono ?_
  rintro e w3 ⟨rfl, rfl⟩
  go_wp2_with fail
  refine (writeNumber_at w.heap.size _ _ _ _ w3 (by omega) (by omega) (by omega) (by simp [be_length]) (by omega) ho2).mono ?_
  rintro e w4 ⟨v4, rfl, ho4, hk4⟩
  have hk := hk.trans hk4
  have hz4' := hk.size
  have hsg := (Seg.kept HS.out hk (Nat.le_refl _)).seg (by omega)
  have HS4 : Hid (Seg w4 (.slice ao l.length cap) l) := hsg
  clear ho2 hk4 hz2' hsg
  go_wp2_with (first | (at_builtin; refine app_seg rfl _ _ rfl w.heap.size _ _ rfl ho4 _ l rfl HS4.out (by simp [be_length]; omega) (by omega) ?_) | fail)
  intro v5 w5 ho5 hk5
  have hbel := (hk.trans hk5).below (Nat.le_refl _)
  go_wp2
  go_ret
  refine ⟨_, rfl, ?_, hbel⟩
  simpa [sealed] using ho5
end Go.Proofs.YtbfhcbihgleddaaGreatDoor
namespace Go.Proofs.YtbfhcbihgleddaaGreatDoor
open Go.RowKit

/-- What is within a seal, if it is whole. -/
def rOpen (l : List Nat) : Option (List Nat) :=
  if (num 4 (l, false)).1 ≤ 1048576 ∧ (num 4 (num 4 (l, false)).2).2.2 = false ∧ (num 4 (l, false)).1 ≤ (num 4 (num 4 (l, false)).2).2.1.length ∧ crc ((num 4 (num 4 (l, false)).2).2.1.take (num 4 (l, false)).1) = (num 4 (num 4 (l, false)).2).1
  then some ((num 4 (num 4 (l, false)).2).2.1.take (num 4 (l, false)).1) else none

def OpenPost (w : World) (r : Option (List Nat)) (e : Ending) (w' : World) : Prop :=
  (∃ l v', r = some l ∧ e = .returned (.tuple #[v', .int .i64 (8 + (l.length : Int)), .int .i64 0]) ∧ Own w.heap.size w' v' l ∧ Below w.heap.size w w') ∨ (r = none ∧ e = .returned (.tuple #[.slice none 0 0, .int .i64 0, .int .i64 11]) ∧ Below w.heap.size w w')
theorem OpenPost.no {w w' : World} {r : Option (List Nat)} (hr : r = none) (h : Below w.heap.size w w') : OpenPost w r (.returned (.tuple #[.slice none 0 0, .int .i64 0, .int .i64 11])) w' := .inr ⟨hr, rfl, h⟩
theorem OpenPost.yes {w w' : World} {r : Option (List Nat)} {l : List Nat} {v' : Value} (hr : r = some l) (ho : Own w.heap.size w' v' l) (h : Below w.heap.size w w') : OpenPost w r (.returned (.tuple #[v', .int .i64 (8 + (l.length : Int)), .int .i64 0])) w' := .inl ⟨l, v', hr, rfl, ho, h⟩

theorem Byts.take {l : List Nat} (h : Byts l) (k : Nat) : Byts (l.take k) := fun i x hx => h i x (by
  rw [List.getElem?_take] at hx
  split at hx
  · exact hx
  · cases hx)

set_option maxHeartbeats 2000000 in
set_option maxRecDepth 100000 in
theorem Open_any (v : Value) (l : List Nat) (w : World) (h : Seg w v l) (hb : Byts l) (hg : Glob w) : Calls Tryz.prog 79 #[v] w (OpenPost w (rOpen l)) := by
  have hg0 := hg.1
  have HG : Hid (Glob w) := hg
  have hr0 := RdS.start h hb
  obtain ⟨ao, cap, rfl, h1, h2, h3, h4⟩ := h
  clear h4 hg
  generalize hro : rOpen l = ro
  unfold rOpen at hro
  have n0 := number_any (sz := 4) hr0 (by omega) (by omega)
  have n1 := fun (w1 : World) (hr : RdS w.heap.size w1 (num 4 (l, false)).2) => number_any (sz := 4) hr (by omega) (by omega)
  rw [show (4 : Int).toNat = 4 from rfl] at n0 n1
  have hsl : (num 4 (l, false)).1 < 4294967296 := num_lt (k := 4) hb
  have hsu : ∀ s : List Nat × Bool, Byts s.1 → (num 4 s).1 < 4294967296 := fun s hs => num_lt (k := 4) hs
  generalize num 4 (l, false) = p0 at *
  obtain ⟨size, s0⟩ := p0
  simp only at *
  have hsu := hsu s0
  generalize num 4 s0 = p1 at *
  obtain ⟨sum, s1, bad⟩ := p1
  simp only at *
  have HR : Hid ((if size ≤ 1048576 ∧ bad = false ∧ size ≤ s1.length ∧ crc (s1.take size) = sum then some (s1.take size) else none) = ro) := hro
  have N1 : Hid (∀ (w1 : World), RdS w.heap.size w1 s0 → Calls Tryz.prog 110 #[.pointer (some ⟨w.heap.size, 0, none⟩), .int .i64 4] w1 fun e w' => e = .returned (.int .u64 sum) ∧ RdS w.heap.size w' (s1, bad) ∧ w1.grownBy w' (some w.heap.size)) := n1
  clear hro n1 hr0
  go_enter Tryz.func79, Tryz.ntmps79
  go_wp2_with fail
  refine n0.mono ?_
  rintro e w1 ⟨rfl, hr1, hg1⟩
  clear n0
  have hsum := hsu hr1.2
  clear hsu
  go_wp2_with fail
  refine (N1.out w1 hr1).mono ?_
  rintro e w2 ⟨rfl, hr2, hg2⟩
  have hG := grownBy_trans (grownBy_trans (grownBy_alloc' w _ (some w.heap.size)) hg1) hg2
  clear hg1 hg2 hr1 N1
  have hbel := Below.of_grown hG (Nat.le_refl _) (Nat.le_refl _)
  have hR := hr2.lt
  by_cases hsz : size ≤ 1048576
  · have hw : wrap64 (size : Int) = size := by unfold wrap64; omega
    have hws : IntKind.u32.wrap (sum : Int) = sum := by rw [IntKind.wrap_u32]; omega
    by_cases hle : size ≤ s1.length
    · go_wp2_with fail
      refine (take_yes w.heap.size w2 s1 bad size hr2.1 hle).mono ?_
      rintro e w3 ⟨v3, rfl, hsg, hrd, hg3⟩
      have hbel := hbel.trans (Below.of_grown hg3 (Nat.le_refl _) (by omega))
      have hb3 : Byts (s1.take size) := hr2.2.take _
      have hb3' : Byts (s1.drop size) := hr2.2.drop _
      have hz3 := hg3.size
      obtain ⟨ao', cap', r0, r1, rf⟩ := RdS.cells (s := (s1.drop size, bad)) ⟨hrd, hb3'⟩
      clear hg3 hG hr2 r0
      simp only at r1
      cases bad
      · go_wp2_with fail
        refine (Sum_any v3 (s1.take size) w3 (hsg.seg (by omega)) hb3 (HG.out.below hbel hg0)).mono ?_
        rintro e w4 ⟨rfl, rfl⟩
        have hsg4 := hsg.seg (show w.heap.size ≤ w4.heap.size by omega)
        have hlen : (s1.take size).length = size := by simp; omega
        by_cases hce : crc (s1.take size) = sum
        · have e1 : ((crc (s1.take size) : Int) != (sum : Int)) = false := by simp [hce]
          have HC : Hid (crc (s1.take size) = sum) := hce
          have HS4 : Hid (Seg w4 v3 (s1.take size)) := hsg4
          obtain ⟨ao3, cap3, hv3, k1, k2, k3, _⟩ := hsg4
          rw [hlen] at hv3
          clear hsg hrd hce hlen
          rw [hv3] at HS4 ⊢
          go_wp2_with fail
          refine (Clone_any _ (s1.take size) w4 HS4.out (by simp; omega)).mono ?_
          rintro e w5 ⟨v5, rfl, ho5, hb5⟩
          have hbel := hbel.trans (hb5.mono (by omega))
          have ho5 := ho5.mono (show w.heap.size ≤ w4.heap.size by omega)
          go_wp2
          go_ret3
          have hlen : (s1.take size).length = size := by simp; omega
          have hp := OpenPost.yes (r := ro) (l := s1.take size) (by rw [← HR.out, if_pos ⟨hsz, by trivial, hle, HC.out⟩]) ho5 hbel
          rw [hlen] at hp
          exact hp
        · have e1 : ((crc (s1.take size) : Int) != (sum : Int)) = true := by simp; omega
          have HC : Hid (¬ crc (s1.take size) = sum) := hce
          clear hsg hsg4 hrd hce
          go_wp2
          go_ret3
          refine OpenPost.no ?_ hbel
          rw [← HR.out, if_neg (fun h => HC.out h.2.2.2)]
      · go_wp2
        go_ret3
        refine OpenPost.no ?_ hbel
        rw [← HR.out, if_neg (fun h => by cases h.2.1)]
    · go_wp2_with fail
      refine (take_no w.heap.size w2 s1 bad size hr2.1 (by omega)).mono ?_
      rintro e w3 ⟨rfl, hrd, hg3⟩
      have hbel := hbel.trans (Below.of_grown hg3 (Nat.le_refl _) (by omega))
      obtain ⟨ao', cap', r0, r1, rf⟩ := RdS.cells (s := (s1, true)) ⟨hrd, hr2.2⟩
      clear hg3 hG hr2 r0
      simp only at r1
      go_wp2
      go_ret3
      refine OpenPost.no ?_ hbel
      rw [← HR.out, if_neg (fun h => hle h.2.2.1)]
  · go_wp2
    go_ret3
    refine OpenPost.no ?_ hbel
    rw [← HR.out, if_neg (fun h => hsz h.1)]
end Go.Proofs.YtbfhcbihgleddaaGreatDoor
