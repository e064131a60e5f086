/-
  Texts of the vault, in build order: Openf, Openc, Sum, Seal, Opens, Ctl2, Known, Math.
-/
import Derived.Test.YtbfhcbihgleddaaGreatDoorM04
import Derived.Laws.AppendOwnNone
import Derived.Lib.SliceRun
import Derived.Lib.SlBytesConst
namespace Go.Proofs.YtbfhcbihgleddaaGreatDoor
open Go.RowKit
def Frm.zero : Frm := ⟨0, 0, 0, 0, 0, 0, false⟩
def done (s : List Nat × Bool) : Bool := !s.2 && s.1.isEmpty

theorem RdS.start {w : World} {v : Value} {l : List Nat} (h : Seg w v l) (hb : Byts l) : RdS w.heap.size (w.alloc (.cells #[v, .bool false] 177)) (l, false) := by
  refine ⟨⟨v, BoxT.new _ _ _, ?_⟩, hb⟩
  obtain ⟨ao, cap, h1, h2, h3, h3', h4⟩ := h
  refine ⟨ao, cap, h1, h2, h3, h3', ?_⟩
  rcases h4 with h4 | ⟨b, off, h5, h6, h7⟩
  · exact .inl h4
  · exact .inr ⟨b, off, h5, h6, fun i x hi => by rw [← h7 i x hi]; exact World.cell?_of_block (Below.heap_alloc w _ b h6)⟩

theorem RdS.start_at {w : World} {v : Value} {l : List Nat} {k : Nat} (hk : k = w.heap.size) (h : Seg w v l) (hb : Byts l) : RdS k (w.alloc (.cells #[v, .bool false] 177)) (l, false) := by subst hk; exact RdS.start h hb
theorem Seg.alloc {w : World} {v : Value} {l : List Nat} (h : Seg w v l) (o : Obj) : Seg (w.alloc o) v l := h.below ((Below.refl _ _).alloc (Nat.le_refl _) o)
theorem Below.of_grown {w w' : World} {R B : Nat} (hg : w.grownBy w' (some R)) (hR : B ≤ R) (hB : B ≤ w.heap.size) : Below B w w' :=
  ⟨hg.os, hg.tape, hg.output, hg.size, fun k hk => hg.block k (by omega) (by simp; omega)⟩

/-- A frame is stored into a box. -/
theorem fin7 {w : World} {k : Nat} {a0 a1 a2 a3 a4 a5 a6 : Value} (hA : BoxT 149 w k #[a0, a1, a2, a3, a4, a5, a6]) (v0 v1 v2 v3 v4 v5 v6 : Value) (W : World)
    (hW : W = (((((((w.setCell ⟨k, 0, none⟩ v0).setCell ⟨k, 1, none⟩ v1).setCell ⟨k, 2, none⟩ v2).setCell ⟨k, 3, none⟩ v3).setCell ⟨k, 4, none⟩ v4).setCell ⟨k, 5, none⟩ v5).setCell ⟨k, 6, none⟩ v6)) :
    Below k w W ∧ BoxT 149 W k #[v0, v1, v2, v3, v4, v5, v6] := by
  subst hW
  refine ⟨?_, ?_⟩
  · exact (((((((Below.refl k w).setCell (Nat.le_refl _) _).setCell (Nat.le_refl _) _).setCell (Nat.le_refl _) _).setCell (Nat.le_refl _) _).setCell (Nat.le_refl _) _).setCell (Nat.le_refl _) _).setCell (Nat.le_refl _) _
  · have h0 : BoxT 149 _ _ #[v0, a1, a2, a3, a4, a5, a6] := hA.set 0 v0
    have h1 : BoxT 149 _ _ #[v0, v1, a2, a3, a4, a5, a6] := h0.set 1 v1
    have h2 : BoxT 149 _ _ #[v0, v1, v2, a3, a4, a5, a6] := h1.set 2 v2
    have h3 : BoxT 149 _ _ #[v0, v1, v2, v3, a4, a5, a6] := h2.set 3 v3
    have h4 : BoxT 149 _ _ #[v0, v1, v2, v3, v4, a5, a6] := h3.set 4 v4
    have h5 : BoxT 149 _ _ #[v0, v1, v2, v3, v4, v5, a6] := h4.set 5 v5
    exact h5.set 6 v6

end Go.Proofs.YtbfhcbihgleddaaGreatDoor
namespace Go.Proofs.YtbfhcbihgleddaaGreatDoor
open Go.RowKit

/-- A control message. -/
structure Ctl where
  kd : Int
  ep : Int
  n : Int
  tk : Int
def Ctl.cs (c : Ctl) : Array Value := #[.int .i64 c.kd, .int .u64 c.ep, .int .u64 c.n, .int .i64 c.tk]
def Ctl.val (c : Ctl) : Value := .agg c.cs
def Ctl.zero : Ctl := ⟨0, 0, 0, 0⟩
def rControl (s : List Nat × Bool) : Ctl × (List Nat × Bool) :=
  (⟨(num 1 s).1, (num 8 (num 1 s).2).1, (num 8 (num 8 (num 1 s).2).2).1, (num 2 (num 8 (num 8 (num 1 s).2).2).2).1⟩,
    if 1 ≤ (num 1 s).1 ∧ (num 1 s).1 ≤ 6 then (num 2 (num 8 (num 8 (num 1 s).2).2).2).2 else ((num 2 (num 8 (num 8 (num 1 s).2).2).2).2.1, true))

end Go.Proofs.YtbfhcbihgleddaaGreatDoor
namespace Go.Proofs.YtbfhcbihgleddaaGreatDoor
open Go.RowKit
def nib (j : Nat) : Nat := [0, 498536548, 997073096, 651767980, 1994146192, 1802195444, 1303535960, 1342533948, 3988292384, 4027552580, 3604390888, 3412177804, 2607071920, 2262029012, 2685067896, 3183342108].getD j 0
/-- The table lies where it was laid. -/
def Glob (w : World) : Prop := 0 < w.heap.size ∧ ∀ j : Nat, j < 16 → w.cell? ⟨0, j, none⟩ = some (.int .u32 (nib j : Nat))
def nstep (c : Nat) : Nat := c / 16 ^^^ nib (c % 16)
def cstep (c x : Nat) : Nat := nstep (nstep (c ^^^ x))
def crc (l : List Nat) : Nat := 4294967295 ^^^ l.foldl cstep 4294967295

theorem xor_lt32 {a b : Nat} (ha : a < 4294967296) (hb : b < 4294967296) : a ^^^ b < 4294967296 := Nat.xor_lt_two_pow (n := 32) ha hb
theorem nib_lt (j : Nat) : nib j < 4294967296 := by
  unfold nib
  match j with
  | 0 | 1 | 2 | 3 | 4 | 5 | 6 | 7 | 8 | 9 | 10 | 11 | 12 | 13 | 14 | 15 => decide
  | _ + 16 => simp
theorem and15 (z : Nat) (hz : z < 4294967296) : bits .and .u32 (z : Int) 15 = ((z % 16 : Nat) : Int) := by
  have h := u32_and_nat z 15 hz (by omega)
  have e : z &&& 15 = z % 16 := Nat.and_two_pow_sub_one_eq_mod z 4
  rw [e] at h
  exact h
set_option maxHeartbeats 1000000 in
set_option maxRecDepth 100000 in
theorem Sum_core (n b off cap : Nat) (l : List Nat) (w : World) (hl : Hid (l.length = n)) (hn : n ≤ 140737488355328) (hb : Hid (Byts l)) (hg : Hid (Glob w)) (hc : Hid (∀ (i x : Nat), l[i]? = some x → w.cell? ⟨b, off + i, none⟩ = some (.int .u8 (x : Int)))) :
    Calls Tryz.prog 84 #[.slice (some ⟨b, off, none⟩) n cap] w fun e w' => e = .returned (.int .u32 (crc l : Nat)) ∧ w' = w := by
  go_enter Tryz.func84, Tryz.ntmps84
  go_wp2
  go_loop [3, 8] (fun c i => ∃ k : Nat, k ≤ n ∧ i = .int .i64 k ∧ ∃ y : Nat, Hid ((l.take k).foldl cstep 4294967295 = y) ∧ y < 4294967296 ∧ c = .int .u32 y) (fun _ i => n - (intOf i).toNat)
  case atStart => exact ⟨0, Nat.zero_le _, rfl, 4294967295, rfl, by omega, rfl⟩
  case round =>
    obtain ⟨k, hk, rfl, y, HY, hy, rfl⟩ := hrel
    by_cases hlt : k < n
    · obtain ⟨x, hx⟩ : ∃ x : Nat, l[k]? = some x := ⟨_, List.getElem?_eq_getElem (by have := hl.out; omega)⟩
      have hx256 : x < 256 := hb.out k x hx
      have c1 := hc.out k x hx
      have HX : Hid (l[k]? = some x) := hx
      clear hx
      obtain ⟨z, hzd, hz⟩ : ∃ z : Nat, z = y ^^^ x ∧ z < 4294967296 := ⟨_, rfl, xor_lt32 hy (by omega)⟩
      have e1 : bits .xor .u32 (y : Int) (x : Int) = (z : Int) := by rw [u32_xor_nat _ _ hy (by omega), hzd]
      obtain ⟨m, hmd, hm⟩ : ∃ m : Nat, m = z % 16 ∧ m < 16 := ⟨_, rfl, by omega⟩
      have e2 : bits .and .u32 (z : Int) 15 = (m : Int) := by rw [hmd]; exact and15 z hz
      obtain ⟨t, htd, ht⟩ : ∃ t : Nat, t = nib m ∧ t < 4294967296 := ⟨_, rfl, nib_lt m⟩
      have e3 : w.cell? ⟨0, m, none⟩ = some (.int .u32 (t : Int)) := by rw [htd]; exact hg.out.2 m hm
      obtain ⟨z2, hz2d, hz2⟩ : ∃ z2 : Nat, z2 = z / 16 ^^^ t ∧ z2 < 4294967296 := ⟨_, rfl, xor_lt32 (by omega) ht⟩
      have e4 : bits .xor .u32 ((z : Int) / 16) (t : Int) = (z2 : Int) := by rw [hz2d]; exact u32_xor_nat (z / 16) t (by omega) ht
      obtain ⟨m2, hm2d, hm2⟩ : ∃ m : Nat, m = z2 % 16 ∧ m < 16 := ⟨_, rfl, by omega⟩
      have e5 : bits .and .u32 (z2 : Int) 15 = (m2 : Int) := by rw [hm2d]; exact and15 z2 hz2
      obtain ⟨t2, ht2d, ht2⟩ : ∃ t : Nat, t = nib m2 ∧ t < 4294967296 := ⟨_, rfl, nib_lt m2⟩
      have e6 : w.cell? ⟨0, m2, none⟩ = some (.int .u32 (t2 : Int)) := by rw [ht2d]; exact hg.out.2 m2 hm2
      obtain ⟨z3, hz3d, hz3⟩ : ∃ z3 : Nat, z3 = z2 / 16 ^^^ t2 ∧ z3 < 4294967296 := ⟨_, rfl, xor_lt32 (by omega) ht2⟩
      have e7 : bits .xor .u32 ((z2 : Int) / 16) (t2 : Int) = (z3 : Int) := by rw [hz3d]; exact u32_xor_nat (z2 / 16) t2 (by omega) ht2
      have HZ : Hid (z3 = cstep y x) := by
        show z3 = cstep y x
        rw [hz3d, ht2d, hm2d, hz2d, htd, hmd, hzd]; rfl
      clear hzd hmd htd hz2d hm2d ht2d hz3d
      go_wp2
      go_round
      case rel =>
        refine ⟨k + 1, by omega, by go_num, z3, ?_, hz3, rfl⟩
        show (l.take (k + 1)).foldl cstep 4294967295 = z3
        rw [List.take_add_one, HX.out, HZ.out, List.foldl_append, HY.out]; rfl
      case measure => simp [intOf]; omega
    · have em : bits .xor .u32 IntKind.u32.max (y : Int) = ((4294967295 ^^^ y : Nat) : Int) := u32_xor_nat 4294967295 y (by omega) hy
      have HM : Hid (bits .xor .u32 IntKind.u32.max (y : Int) = ((4294967295 ^^^ y : Nat) : Int)) := em
      clear em
      go_wp2
      go_ret
      refine ⟨?_, rfl⟩
      have : crc l = 4294967295 ^^^ y := by
        unfold crc
        rw [← HY.out, List.take_of_length_le (by have := hl.out; omega)]
      rw [this]
      exact congrArg (fun q => Ending.returned (Value.int .u32 q)) HM.out

set_option maxHeartbeats 1000000 in
set_option maxRecDepth 100000 in
theorem Sum_any (v : Value) (l : List Nat) (w : World) (h : Seg w v l) (hb : Byts l) (hg : Glob w) :
    Calls Tryz.prog 84 #[v] w fun e w' => e = .returned (.int .u32 (crc l : Nat)) ∧ w' = w := by
  obtain ⟨ao, cap, rfl, h1, h2, h3, h4⟩ := h
  by_cases hl : l = []
  · subst hl
    clear h4 hg
    have em : bits .xor .u32 IntKind.u32.max 4294967295 = ((4294967295 ^^^ 4294967295 : Nat) : Int) := u32_xor_nat 4294967295 4294967295 (by omega) (by omega)
    rw [Nat.xor_self] at em
    simp only [List.length_nil]
    go_enter Tryz.func84, Tryz.ntmps84
    go_wp2
    refine wp_loop_rounds 1 ?_
    rw [rounds_succ]
    go_wp2
    go_ret
    exact ⟨rfl, rfl⟩
  · rcases h4 with h4 | ⟨b, off, rfl, _, hc⟩
    · exact absurd h4 hl
    · exact Sum_core l.length b off cap l w rfl h3 hb hg hc
end Go.Proofs.YtbfhcbihgleddaaGreatDoor
namespace Go
section
variable {P : Program} {w : World}
theorem run_append_none_any (base : Nat) (t ty e : TypeId) (i : TypeInfo) (size : Nat) (ht : P.underlying t = some (.slice e)) (hi : P.info? e = some i)
    (v : Value) (n : Nat) (xs : List Value) (hown : w.ownsRow base e size v n xs) (c : Nat) :
    (Builtin.append_ #[t, t] ty #[v, .slice none 0 c]).run P w = .ok v w := by
  rcases hown.2 with ⟨rfl, rfl⟩ | ⟨g, cap, cur, rfl, _, _, hnc, _⟩
  · simp [Builtin.append_, run_underlying ht, sizeOf, typeInfo, hi, Builtin.lenOf, Builtin.firstCells]
  · simp [Builtin.append_, run_underlying ht, sizeOf, typeInfo, hi, Builtin.lenOf, Builtin.firstCells, hnc, storeCells]
theorem wpList_append_none_any {ops : Array Oper} {rest : List Oper} {o : Oper} {a : Act} {Q : Exit → Act → World → Prop} (hgd : o.guard = none) (s x : Operand) (t : TypeId)
    (ho : o.op = .call { callee := .builtin .append, args := #[s, x], argTypes := #[t, t] })
    (base : Nat) (e : TypeId) (i : TypeInfo) (size : Nat) (ht : P.underlying t = some (.slice e)) (hi : P.info? e = some i)
    (v : Value) (n : Nat) (xs : List Value) (hs : a.eval s = v) (hown : w.ownsRow base e size v n xs) (c : Nat) (hx : a.eval x = .slice none 0 c)
    (h : wpList P ops Q rest (a.put o.dst v) w) : wpList P ops Q (o :: rest) a w := by
  refine wpList_plain hgd fun K hK => ?_
  have hrun := run_append_none_any (P := P) (w := w) base t o.type e i size ht hi v n xs hown c
  unfold Oper.wp
  simp [execOp, ho, resolve, invoke, builtin, hs, hx, hrun, Result.andThen]
  exact hK _ _ h
end
end Go
namespace Go.Proofs.YtbfhcbihgleddaaGreatDoor
open Go.RowKit

theorem add_plain2 (b o i : Nat) : (⟨b, o, none⟩ : Addr).add i = ⟨b, o + i, none⟩ := by unfold Addr.add; split <;> simp_all
/-- append's law at rows of bytes, whatever the source. -/
theorem app_seg {w : World} {ops : Array Oper} {rest : List Oper} {o : Oper} {a : Act} {Q : Exit → Act → World → Prop} (hgd : o.guard = none) (s x : Operand)
    (ho : o.op = .call { callee := .builtin .append, args := #[s, x], argTypes := #[22, 22] }) (base : Nat) (v : Value) (l : List Nat) (hs : a.eval s = v) (hown : Own base w v l)
    (vx : Value) (m : List Nat) (hx : a.eval x = vx) (hseg : Seg w vx m) (hl : l.length + m.length ≤ 100000000000) (hbase : base ≤ w.heap.size)
    (h : ∀ v' w', Own base w' v' (l ++ m) → Kept base w w' → wpList Tryz.prog ops Q rest (a.put o.dst v') w') : wpList Tryz.prog ops Q (o :: rest) a w := by
  obtain ⟨ao, cap, rfl, h1, h2, h3, h4⟩ := hseg
  rcases ao with _ | ad
  · have hm : m = [] := by
      rcases h4 with h4 | ⟨b, off, h5, _⟩
      · exact h4
      · cases h5
    subst hm
    obtain ⟨i0, hi, hz0, hz1, hz2⟩ := info_parts Tryz.info5
    refine wpList_append_none_any hgd s x 22 ho base 5 i0 1 Tryz.underlying22 hi v l.length (bs l) hs hown cap hx (h v w ?_ (Kept.refl _ _))
    rw [List.append_nil]; exact hown
  · refine app_own hgd s x ho base v l hs hown ad cap m hx ?_ hl hbase h
    intro j hj
    rcases h4 with h4 | ⟨b, off, h5, _, h6⟩
    · subst h4; cases hj
    · cases h5
      have := h6 j _ (List.getElem?_eq_getElem hj)
      rw [add_plain2]; exact this

theorem Own.seg {base : Nat} {w : World} {v : Value} {l : List Nat} (h : Own base w v l) (hl : l.length ≤ 140737488355328) : Seg w v l := by
  by_cases h0 : l = []
  · subst h0
    rcases h.2 with ⟨rfl, _⟩ | ⟨g, cap, cur, rfl, h2, h3, h4, h5, _⟩
    · exact Seg.nil w
    · exact ⟨_, cap, rfl, by simp, h5, by simp, .inl rfl⟩
  · obtain ⟨g, cap, rfl, h2, h3, h4, h5⟩ := h.shape h0
    refine ⟨_, cap, rfl, h4, h5, hl, .inr ⟨g, 0, rfl, h3, fun i x hx => ?_⟩⟩
    obtain ⟨hi, rfl⟩ := List.getElem?_eq_some_iff.1 hx
    rw [Nat.zero_add]; exact h.cellAt i hi
theorem Own.emp (base : Nat) (w : World) (hb : base ≤ w.heap.size) : Own base (w.alloc (.cells #[] 5)) (.slice (some ⟨w.heap.size, 0, none⟩) 0 0) [] :=
  World.ownsRow_lit (base := base) (e := 5) (size := 1) w #[] 0 hb (by unfold maxLen; omega) rfl

set_option maxHeartbeats 1000000 in
set_option maxRecDepth 100000 in
theorem Clone_any (v : Value) (l : List Nat) (w : World) (h : Seg w v l) (hl : l.length ≤ 10000000000) :
    Calls Tryz.prog 112 #[v] w fun e w' => ∃ v', e = .returned v' ∧ Own w.heap.size w' v' l ∧ Below w.heap.size w w' := by
  have h0 := h
  have qT : ∀ (w : World) (a : Option Addr) (n c n' c' : Nat), (binOp .eql 22 (.slice a n c) (.slice none n' c')).run Tryz.prog w = .ok (.bool a.isNone) w := fun w a n c n' c' => Lib.run_eql_slice_nil w _ _ a n c n' c' Tryz.underlying22
  obtain ⟨ao, cap, rfl, h1, h2, h3, h4⟩ := h
  rcases ao with _ | ad
  · have hm : l = [] := by
      rcases h4 with h4 | ⟨b, off, h5, _⟩
      · exact h4
      · cases h5
    subst hm
    clear h4 h0
    go_enter Tryz.func112, Tryz.ntmps112
    go_wp2
    go_ret
    exact ⟨_, rfl, Own.nil _ _, Below.refl _ _⟩
  · clear h4
    go_enter Tryz.func112, Tryz.ntmps112
    go_wp2_with (at_builtin; refine app_seg rfl _ _ rfl w.heap.size _ [] rfl (Own.emp _ _ (Nat.le_refl _)) _ l rfl (h0.alloc _) (by simp; omega) (by simp) ?_)
    intro v' w1 ho hk
    go_wp2
    go_ret
    exact ⟨_, rfl, by simpa using ho, ((Kept.refl _ _).alloc _ |>.trans hk).below (Nat.le_refl _)⟩

theorem Glob.below {w w' : World} {B : Nat} (h : Glob w) (hb : Below B w w') (hB : 0 < B) : Glob w' :=
  ⟨by have := hb.size; have := h.1; omega, fun j hj => (hb.cell (p := ⟨0, j, none⟩) hB).trans (h.2 j hj)⟩
theorem Glob.kept {w w' : World} {B : Nat} (h : Glob w) (hk : Kept B w w') (hB : 0 < B) : Glob w' :=
  ⟨by have := hk.size; have := h.1; omega, fun j hj => by
    rw [← h.2 j hj]
    exact World.cell?_of_block (hk.block 0 h.1 (.inl hB))⟩
theorem Seg.kept {w w' : World} {v : Value} {l : List Nat} {B : Nat} (h : SegB B w v l) (hk : Kept B w w') (hB : B ≤ w.heap.size) : SegB B w' v l := by
  obtain ⟨ao, cap, h1, h2, h3, h3', h4⟩ := h
  refine ⟨ao, cap, h1, h2, h3, h3', ?_⟩
  rcases h4 with h4 | ⟨b, off, h5, h6, h7⟩
  · exact .inl h4
  · exact .inr ⟨b, off, h5, h6, fun i x hi => (World.cell?_of_block (hk.block b (by omega) (.inl h6))).trans (h7 i x hi)⟩
theorem SegB.seg {w : World} {v : Value} {l : List Nat} {B : Nat} (h : SegB B w v l) (hB : B ≤ w.heap.size) : Seg w v l := by
  obtain ⟨ao, cap, h1, h2, h3, h3', h4⟩ := h
  refine ⟨ao, cap, h1, h2, h3, h3', ?_⟩
  rcases h4 with h4 | ⟨b, off, h5, h6, h7⟩
  · exact .inl h4
  · exact .inr ⟨b, off, h5, by omega, h7⟩
theorem Seg.segB {w : World} {v : Value} {l : List Nat} (h : Seg w v l) : SegB w.heap.size w v l := h

theorem crc_lt (l : List Nat) (hb : Byts l) : crc l < 4294967296 := by
  unfold crc
  refine xor_lt32 (by omega) ?_
  have : ∀ (m : List Nat) (c : Nat), Byts m → c < 4294967296 → m.foldl cstep c < 4294967296 := by
    intro m
    induction m with
    | nil => intro c _ hc; exact hc
    | cons x m ih =>
      intro c hm hc
      refine ih _ (fun i y hy => hm (i + 1) y (by simpa using hy)) ?_
      have hx : x < 256 := hm 0 x rfl
      have h1 : c ^^^ x < 4294967296 := xor_lt32 hc (by omega)
      have h2 : nstep (c ^^^ x) < 4294967296 := xor_lt32 (by omega) (nib_lt _)
      exact xor_lt32 (by omega) (nib_lt _)
  exact this l _ hb (by omega)

/-- A seal's bytes. -/
def sealed (l : List Nat) : List Nat := be 4 l.length ++ (be 4 (crc l) ++ l)

set_option maxHeartbeats 1000000 in
set_option maxRecDepth 100000 in
theorem Seal_any (v : Value) (l : List Nat) (w : World) (h : Seg w v l) (hb : Byts l) (hg : Glob w) (hl : l.length ≤ 1000000000) :
    Calls Tryz.prog 66 #[v] w fun e w' => ∃ v', e = .returned v' ∧ Own w.heap.size w' v' (sealed l) ∧ Below w.heap.size w w' := by
  have hsb := h.segB
  have hg0 := hg.1
  have HG : Hid (Glob w) := hg
  have HS : Hid (SegB w.heap.size w v l) := hsb
  obtain ⟨ao, cap, rfl, h1, h2, h3, h4⟩ := h
  clear h4 hg hsb
  obtain ⟨i0, hi, hz0, hz1, hz2⟩ := info_parts Tryz.info5
  have hw : IntKind.u64.wrap (l.length : Int) = l.length := by rw [IntKind.wrap_u64]; omega
  have hc := crc_lt l hb
  have hwc : IntKind.u64.wrap (crc l : Int) = crc l := by rw [IntKind.wrap_u64]; omega
  go_enter Tryz.func66, Tryz.ntmps66
  go_wp2_with (first | (at_make; refine wpList_make_own _ rfl _ _ 22 rfl w.heap.size 5 i0 (.int .u8 0) 1 Tryz.underlying22 hi hz0 hz1 .i64 .i64 _ (8 + l.length) rfl rfl (by omega) (by rw [hz2]; omega) (by unfold maxLen; omega) (Nat.le_refl _) ?_) | fail)
  intro w1 ho1 hgr1
  have ho1 : Own w.heap.size w1 (.slice (some ⟨w.heap.size, 0, none⟩) 0 (8 + l.length)) [] := ho1
  have hk1 : Kept w.heap.size w w1 := ⟨hgr1.os, hgr1.tape, hgr1.output, hgr1.size, fun k hk _ => hgr1.block k hk (by simp)⟩
  have hz1' := hk1.size
  clear hgr1
  go_wp2_with fail
  refine (writeNumber_at w.heap.size _ [] _ _ w1 (by omega) (by omega) (by omega) (by simp) (by omega) ho1).mono ?_
  rintro e w2 ⟨v2, rfl, ho2, hk2⟩
  have hk := hk1.trans hk2
  have hz2' := hk.size
  clear ho1 hk1 hk2 hz1'
  go_wp2_with fail
  refine (Sum_any _ l w2 ((Seg.kept HS.out hk (Nat.le_refl _)).seg (by omega)) hb (HG.out.kept hk hg0)).mono ?_
  rintro e w3 ⟨rfl, rfl⟩
  go_wp2_with fail
  refine (writeNumber_at w.heap.size _ _ _ _ w3 (by omega) (by omega) (by omega) (by simp [be_length]) (by omega) ho2).mono ?_
  rintro e w4 ⟨v4, rfl, ho4, hk4⟩
  have hk := hk.trans hk4
  have hz4' := hk.size
  have hsg := (Seg.kept HS.out hk (Nat.le_refl _)).seg (by omega)
  have HS4 : Hid (Seg w4 (.slice ao l.length cap) l) := hsg
  clear ho2 hk4 hz2' hsg
  go_wp2_with (first | (at_builtin; refine app_seg rfl _ _ rfl w.heap.size _ _ rfl ho4 _ l rfl HS4.out (by simp [be_length]; omega) (by omega) ?_) | fail)
  intro v5 w5 ho5 hk5
  have hbel := (hk.trans hk5).below (Nat.le_refl _)
  go_wp2
  go_ret
  refine ⟨_, rfl, ?_, hbel⟩
  simpa [sealed] using ho5
end Go.Proofs.YtbfhcbihgleddaaGreatDoor
namespace Go.Proofs.YtbfhcbihgleddaaGreatDoor
open Go.RowKit

/-- What is within a seal, if it is whole. -/
def rOpen (l : List Nat) : Option (List Nat) :=
  if (num 4 (l, false)).1 ≤ 1048576 ∧ (num 4 (num 4 (l, false)).2).2.2 = false ∧ (num 4 (l, false)).1 ≤ (num 4 (num 4 (l, false)).2).2.1.length ∧ crc ((num 4 (num 4 (l, false)).2).2.1.take (num 4 (l, false)).1) = (num 4 (num 4 (l, false)).2).1
  then some ((num 4 (num 4 (l, false)).2).2.1.take (num 4 (l, false)).1) else none

def OpenPost (w : World) (r : Option (List Nat)) (e : Ending) (w' : World) : Prop :=
  (∃ l v', r = some l ∧ e = .returned (.tuple #[v', .int .i64 (8 + (l.length : Int)), .int .i64 0]) ∧ Own w.heap.size w' v' l ∧ Below w.heap.size w w') ∨ (r = none ∧ e = .returned (.tuple #[.slice none 0 0, .int .i64 0, .int .i64 11]) ∧ Below w.heap.size w w')
theorem OpenPost.no {w w' : World} {r : Option (List Nat)} (hr : r = none) (h : Below w.heap.size w w') : OpenPost w r (.returned (.tuple #[.slice none 0 0, .int .i64 0, .int .i64 11])) w' := .inr ⟨hr, rfl, h⟩
theorem OpenPost.yes {w w' : World} {r : Option (List Nat)} {l : List Nat} {v' : Value} (hr : r = some l) (ho : Own w.heap.size w' v' l) (h : Below w.heap.size w w') : OpenPost w r (.returned (.tuple #[v', .int .i64 (8 + (l.length : Int)), .int .i64 0])) w' := .inl ⟨l, v', hr, rfl, ho, h⟩

theorem Byts.take {l : List Nat} (h : Byts l) (k : Nat) : Byts (l.take k) := fun i x hx => h i x (by
  rw [List.getElem?_take] at hx
  split at hx
  · exact hx
  · cases hx)

set_option maxHeartbeats 2000000 in
set_option maxRecDepth 100000 in
theorem Open_any (v : Value) (l : List Nat) (w : World) (h : Seg w v l) (hb : Byts l) (hg : Glob w) : Calls Tryz.prog 79 #[v] w (OpenPost w (rOpen l)) := by
  have hg0 := hg.1
  have HG : Hid (Glob w) := hg
  have hr0 := RdS.start h hb
  obtain ⟨ao, cap, rfl, h1, h2, h3, h4⟩ := h
  clear h4 hg
  generalize hro : rOpen l = ro
  unfold rOpen at hro
  have n0 := number_any (sz := 4) hr0 (by omega) (by omega)
  have n1 := fun (w1 : World) (hr : RdS w.heap.size w1 (num 4 (l, false)).2) => number_any (sz := 4) hr (by omega) (by omega)
  rw [show (4 : Int).toNat = 4 from rfl] at n0 n1
  have hsl : (num 4 (l, false)).1 < 4294967296 := num_lt (k := 4) hb
  have hsu : ∀ s : List Nat × Bool, Byts s.1 → (num 4 s).1 < 4294967296 := fun s hs => num_lt (k := 4) hs
  generalize num 4 (l, false) = p0 at *
  obtain ⟨size, s0⟩ := p0
  simp only at *
  have hsu := hsu s0
  generalize num 4 s0 = p1 at *
  obtain ⟨sum, s1, bad⟩ := p1
  simp only at *
  have HR : Hid ((if size ≤ 1048576 ∧ bad = false ∧ size ≤ s1.length ∧ crc (s1.take size) = sum then some (s1.take size) else none) = ro) := hro
  have N1 : Hid (∀ (w1 : World), RdS w.heap.size w1 s0 → Calls Tryz.prog 110 #[.pointer (some ⟨w.heap.size, 0, none⟩), .int .i64 4] w1 fun e w' => e = .returned (.int .u64 sum) ∧ RdS w.heap.size w' (s1, bad) ∧ w1.grownBy w' (some w.heap.size)) := n1
  clear hro n1 hr0
  go_enter Tryz.func79, Tryz.ntmps79
  go_wp2_with fail
  refine n0.mono ?_
  rintro e w1 ⟨rfl, hr1, hg1⟩
  clear n0
  have hsum := hsu hr1.2
  clear hsu
  go_wp2_with fail
  refine (N1.out w1 hr1).mono ?_
  rintro e w2 ⟨rfl, hr2, hg2⟩
  have hG := grownBy_trans (grownBy_trans (grownBy_alloc' w _ (some w.heap.size)) hg1) hg2
  clear hg1 hg2 hr1 N1
  have hbel := Below.of_grown hG (Nat.le_refl _) (Nat.le_refl _)
  have hR := hr2.lt
  by_cases hsz : size ≤ 1048576
  · have hw : wrap64 (size : Int) = size := by unfold wrap64; omega
    have hws : IntKind.u32.wrap (sum : Int) = sum := by rw [IntKind.wrap_u32]; omega
    by_cases hle : size ≤ s1.length
    · go_wp2_with fail
      refine (take_yes w.heap.size w2 s1 bad size hr2.1 hle).mono ?_
      rintro e w3 ⟨v3, rfl, hsg, hrd, hg3⟩
      have hbel := hbel.trans (Below.of_grown hg3 (Nat.le_refl _) (by omega))
      have hb3 : Byts (s1.take size) := hr2.2.take _
      have hb3' : Byts (s1.drop size) := hr2.2.drop _
      have hz3 := hg3.size
      obtain ⟨ao', cap', r0, r1, rf⟩ := RdS.cells (s := (s1.drop size, bad)) ⟨hrd, hb3'⟩
      clear hg3 hG hr2 r0
      simp only at r1
      cases bad
      · go_wp2_with fail
        refine (Sum_any v3 (s1.take size) w3 (hsg.seg (by omega)) hb3 (HG.out.below hbel hg0)).mono ?_
        rintro e w4 ⟨rfl, rfl⟩
        have hsg4 := hsg.seg (show w.heap.size ≤ w4.heap.size by omega)
        have hlen : (s1.take size).length = size := by simp; omega
        by_cases hce : crc (s1.take size) = sum
        · have e1 : ((crc (s1.take size) : Int) != (sum : Int)) = false := by simp [hce]
          have HC : Hid (crc (s1.take size) = sum) := hce
          have HS4 : Hid (Seg w4 v3 (s1.take size)) := hsg4
          obtain ⟨ao3, cap3, hv3, k1, k2, k3, _⟩ := hsg4
          rw [hlen] at hv3
          clear hsg hrd hce hlen
          rw [hv3] at HS4 ⊢
          go_wp2_with fail
          refine (Clone_any _ (s1.take size) w4 HS4.out (by simp; omega)).mono ?_
          rintro e w5 ⟨v5, rfl, ho5, hb5⟩
          have hbel := hbel.trans (hb5.mono (by omega))
          have ho5 := ho5.mono (show w.heap.size ≤ w4.heap.size by omega)
          go_wp2
          go_ret3
          have hlen : (s1.take size).length = size := by simp; omega
          have hp := OpenPost.yes (r := ro) (l := s1.take size) (by rw [← HR.out, if_pos ⟨hsz, by trivial, hle, HC.out⟩]) ho5 hbel
          rw [hlen] at hp
          exact hp
        · have e1 : ((crc (s1.take size) : Int) != (sum : Int)) = true := by simp; omega
          have HC : Hid (¬ crc (s1.take size) = sum) := hce
          clear hsg hsg4 hrd hce
          go_wp2
          go_ret3
          refine OpenPost.no ?_ hbel
          rw [← HR.out, if_neg (fun h => HC.out h.2.2.2)]
      · go_wp2
        go_ret3
        refine OpenPost.no ?_ hbel
        rw [← HR.out, if_neg (fun h => by cases h.2.1)]
    · go_wp2_with fail
      refine (take_no w.heap.size w2 s1 bad size hr2.1 (by omega)).mono ?_
      rintro e w3 ⟨rfl, hrd, hg3⟩
      have hbel := hbel.trans (Below.of_grown hg3 (Nat.le_refl _) (by omega))
      obtain ⟨ao', cap', r0, r1, rf⟩ := RdS.cells (s := (s1, true)) ⟨hrd, hr2.2⟩
      clear hg3 hG hr2 r0
      simp only at r1
      go_wp2
      go_ret3
      refine OpenPost.no ?_ hbel
      rw [← HR.out, if_neg (fun h => hle h.2.2.1)]
  · go_wp2
    go_ret3
    refine OpenPost.no ?_ hbel
    rw [← HR.out, if_neg (fun h => hsz h.1)]
end Go.Proofs.YtbfhcbihgleddaaGreatDoor
namespace Go.Proofs.YtbfhcbihgleddaaGreatDoor
open Go.RowKit

end Go.Proofs.YtbfhcbihgleddaaGreatDoor
namespace Go.Proofs.YtbfhcbihgleddaaGreatDoor
open Go.RowKit

/-- A new row of constant bytes. -/
theorem Seg.lit {w : World} {C : Array Value} {m : Nat × Nat} (l : List Nat) (hC : C = (bs l).toArray) (hl : l.length ≤ 1000) : Seg (w.alloc (.cells C 5 m)) (.slice (some ⟨w.heap.size, 0, none⟩) l.length l.length) l := by
  refine ⟨_, l.length, rfl, Nat.le_refl _, by omega, by omega, .inr ⟨w.heap.size, 0, rfl, by simp, fun i x hx => ?_⟩⟩
  rw [World.cell?_alloc_mark, Nat.zero_add, hC]
  simp [bs, List.getElem?_map, hx]
theorem Byts.of (l : List Nat) (h : l.all (· < 256) = true) : Byts l := fun i x hx => by
  have := List.all_eq_true.1 h x (List.mem_of_getElem? hx)
  simpa using this
theorem known_1 : fits 2 0 0 0 5 0 false = true := by decide
theorem known_2 : done (rFrame (frb 2 0 0 0 5 0 false, false)).2 = true := by decide +kernel
theorem known_3 : (rFrame (frb 2 0 0 0 5 0 false, false)).1 = ⟨2, 0, 0, 0, 5, 0, false⟩ := by
  have : ∀ f : Frm, f.kd = 2 ∧ f.ke = 0 ∧ f.ti = 0 ∧ f.va = 0 ∧ f.ma = 5 ∧ f.n = 0 ∧ f.ov = false → f = ⟨2, 0, 0, 0, 5, 0, false⟩ := by
    rintro ⟨a, b, c, d, e, f, g⟩ ⟨rfl, rfl, rfl, rfl, rfl, rfl, rfl⟩; rfl
  exact this _ (by decide +kernel)
theorem known_4 : rOpen (sealed [97, 98, 99] ++ [9]) = some [97, 98, 99] := by decide +kernel
theorem known_5 : rOpen ((sealed [97, 98, 99]).take 10) = none := by decide +kernel
theorem known_6 : crc [49, 50, 51, 52, 53, 54, 55, 56, 57] = 3421780262 := by decide +kernel
theorem known_7 : fits 0 0 0 0 0 0 false = false := by decide
theorem known_8 : frb 2 0 0 0 5 0 false = [2, 0, 0, 0, 0, 0, 0, 0, 5] := by decide +kernel
theorem known_9 : (sealed [97, 98, 99]).length = 11 := by decide +kernel
theorem sealed_byts : Byts (sealed [97, 98, 99]) := Byts.of _ (by decide +kernel)

theorem SegB.below {B : Nat} {w w' : World} {v : Value} {l : List Nat} (h : SegB B w v l) (hb : Below B w w') : SegB B w' v l := by
  obtain ⟨ao, cap, h1, h2, h3, h3', h4⟩ := h
  refine ⟨ao, cap, h1, h2, h3, h3', ?_⟩
  rcases h4 with h4 | ⟨b, off, h5, h6, h7⟩
  · exact .inl h4
  · exact .inr ⟨b, off, h5, h6, fun i x hi => (hb.cell (p := ⟨b, off + i, none⟩) h6).trans (h7 i x hi)⟩
theorem Seg.cut {w : World} {g off n cap k : Nat} {l : List Nat} (h : Seg w (.slice (some ⟨g, off, none⟩) n cap) l) (hk : k ≤ l.length) : Seg w (.slice (some ⟨g, off, none⟩) k cap) (l.take k) := by
  obtain ⟨ao, cap', h1, h2, h3, h3', h4⟩ := h
  simp only [Value.slice.injEq] at h1
  obtain ⟨rfl, rfl, rfl⟩ := h1
  refine ⟨some ⟨g, off, none⟩, cap, by simp [List.length_take, Nat.min_eq_left hk], by simp; omega, h3, by simp; omega, ?_⟩
  rcases h4 with h4 | ⟨b, o, h5, h6, h7⟩
  · exact .inl (by simp [h4])
  · refine .inr ⟨b, o, h5, h6, fun i x hx => h7 i x ?_⟩
    rw [List.getElem?_take] at hx
    split at hx
    · exact hx
    · cases hx

end Go.Proofs.YtbfhcbihgleddaaGreatDoor
namespace Go.Proofs.YtbfhcbihgleddaaGreatDoor
open Go.RowKit

theorem val_be (k n : Nat) : ∀ acc, (be k n).foldl (fun n c => n * 256 + c) acc = acc * 2 ^ (8 * k) + n % 2 ^ (8 * k) := by
  induction k with
  | zero => intro acc; simp [be, Nat.mod_one]
  | succ k ih =>
    intro acc
    have e : 2 ^ (8 * (k + 1)) = 2 ^ (8 * k) * 256 := by rw [show 8 * (k + 1) = 8 * k + 8 from by omega, Nat.pow_add]
    simp only [be, List.foldl_cons]
    rw [ih, e, Nat.mod_mul, Nat.add_mul]
    have : n / 2 ^ (8 * k) % 256 * 2 ^ (8 * k) = 2 ^ (8 * k) * (n / 2 ^ (8 * k) % 256) := Nat.mul_comm _ _
    have : acc * 256 * 2 ^ (8 * k) = acc * (2 ^ (8 * k) * 256) := by rw [Nat.mul_assoc, Nat.mul_comm 256]
    omega
theorem num_be (k n : Nat) (l : List Nat) (b : Bool) (hn : n < 2 ^ (8 * k)) : num k (be k n ++ l, b) = (n, (l, b)) := by
  have hk : k ≤ (be k n ++ l).length := by simp [be_length]
  rw [num_yes hk]
  have h1 : (be k n ++ l).take k = be k n := List.take_left' (be_length k n)
  have h2 : (be k n ++ l).drop k = l := List.drop_left' (be_length k n)
  simp only [h1, h2]
  have : val (be k n) = n := by
    unfold val
    rw [val_be, Nat.zero_mul, Nat.zero_add, Nat.mod_eq_of_lt hn]
  rw [this]
theorem num_one (x : Nat) (l : List Nat) (b : Bool) : num 1 (x :: l, b) = (x, (l, b)) := by
  rw [num_yes (by simp)]
  simp [val]
theorem wrap_u64_lt (n : Int) : (IntKind.u64.wrap n).toNat < 2 ^ (8 * 8) := by rw [IntKind.wrap_u64]; omega
theorem num_sbe (n : Int) (l : List Nat) (b : Bool) : num 8 (sbe n ++ l, b) = ((IntKind.u64.wrap n).toNat, (l, b)) := num_be 8 _ l b (wrap_u64_lt n)
theorem i64of_wrap (n : Int) (h0 : -9223372036854775808 ≤ n) (h1 : n ≤ 9223372036854775807) : i64of (IntKind.u64.wrap n).toNat = n := by
  unfold i64of wrap64
  rw [IntKind.wrap_u64]
  omega
theorem rFlag_of (x : Bool) (l : List Nat) : rFlag (x.toNat :: l, false) = (x, (l, false)) := by
  unfold rFlag
  rw [num_one]
  cases x <;> simp

theorem Byts.app {l m : List Nat} (hl : Byts l) (hm : Byts m) : Byts (l ++ m) := by
  intro i x hx
  by_cases hi : i < l.length
  · rw [List.getElem?_append_left hi] at hx; exact hl i x hx
  · rw [List.getElem?_append_right (by omega)] at hx; exact hm _ x hx
theorem Byts.cons {x : Nat} {l : List Nat} (hx : x < 256) (hl : Byts l) : Byts (x :: l) := by
  intro i y hy
  cases i with
  | zero => simp at hy; omega
  | succ i => exact hl i y (by simpa using hy)
theorem Byts.nil : Byts [] := by intro i x hx; simp at hx
theorem Byts.be (k n : Nat) : Byts (be k n) := by
  induction k with
  | zero => exact Byts.nil
  | succ k ih => exact Byts.cons (Nat.mod_lt _ (by omega)) ih
theorem Byts.sbe (n : Int) : Byts (sbe n) := Byts.be _ _

theorem frb_byts (kd ke ti va ma n : Int) (ov : Bool) : Byts (frb kd ke ti va ma n ov) := by
  unfold frb
  split
  · exact Byts.cons (by omega) ((Byts.sbe _).app ((Byts.sbe _).app (Byts.sbe _)))
  split
  · exact Byts.cons (by omega) (Byts.sbe _)
  · exact Byts.cons (by omega) ((Byts.be _ _).app (Byts.cons (by cases ov <;> simp) Byts.nil))
theorem frb_len (kd ke ti va ma n : Int) (ov : Bool) : (frb kd ke ti va ma n ov).length ≤ 25 := by
  unfold frb
  split
  · simp [YtbfhcbihgleddaaGreatDoor.sbe, be_length]
  split
  · simp [YtbfhcbihgleddaaGreatDoor.sbe, be_length]
  · simp [be_length]

def I64 (n : Int) : Prop := -9223372036854775808 ≤ n ∧ n ≤ 9223372036854775807
def U64 (n : Int) : Prop := 0 ≤ n ∧ n ≤ 18446744073709551615

/-- What Frame writes is read as it was; what stands behind it is left. -/
theorem rFrame_frb (kd ke ti va ma n : Int) (ov : Bool) (l : List Nat) (h : fits kd ke ti va ma n ov = true) (h1 : I64 ke) (h2 : I64 ti) (h3 : I64 va) (h4 : I64 ma) (h5 : U64 n) :
    rFrame (frb kd ke ti va ma n ov ++ l, false) = (⟨kd, ke, ti, va, ma, n, ov⟩, (l, false)) := by
  rcases fits_kind h with rfl | rfl | rfl
  · rw [fits_1] at h
    obtain ⟨rfl, rfl, rfl⟩ := of_decide_eq_true h
    have e : frb 1 ke ti va 0 0 false ++ l = 1 :: (sbe ke ++ (sbe ti ++ (sbe va ++ l))) := by simp [frb]
    rw [e]
    unfold rFrame
    simp only [num_one, if_true, num_sbe, i64of_wrap _ h1.1 h1.2, i64of_wrap _ h2.1 h2.2, i64of_wrap _ h3.1 h3.2]
  · rw [fits_2] at h
    obtain ⟨rfl, rfl, rfl, rfl, rfl⟩ := of_decide_eq_true h
    have e : frb 2 0 0 0 ma 0 false ++ l = 2 :: (sbe ma ++ l) := by simp [frb]
    rw [e]
    unfold rFrame
    simp only [num_one, show ¬ (2 : Nat) = 1 from by decide, if_false, if_true, num_sbe, i64of_wrap _ h4.1 h4.2]
  · rw [fits_3] at h
    obtain ⟨rfl, rfl, rfl, rfl⟩ := of_decide_eq_true h
    have e : frb 3 0 0 0 0 n ov ++ l = 3 :: (be 8 n.toNat ++ (ov.toNat :: l)) := by simp [frb]
    have hn : n.toNat < 2 ^ (8 * 8) := by have := h5.2; omega
    have hc : ((n.toNat : Nat) : Int) = n := Int.toNat_of_nonneg h5.1
    rw [e]
    unfold rFrame
    simp only [num_one, show ¬ (3 : Nat) = 1 from by decide, show ¬ (3 : Nat) = 2 from by decide, if_false, if_true, num_be 8 _ _ _ hn, rFlag_of, hc]

theorem rControl_ctb (kd ep n tk : Int) (l : List Nat) (h : cfits kd tk = true) (h1 : U64 ep) (h2 : U64 n) : rControl (ctb kd ep n tk ++ l, false) = (⟨kd, ep, n, tk⟩, (l, false)) := by
  obtain ⟨a, b, c, d⟩ := of_decide_eq_true h
  have e : ctb kd ep n tk ++ l = kd.toNat :: (be 8 ep.toNat ++ (be 8 n.toNat ++ (be 2 tk.toNat ++ l))) := by simp [ctb]
  have k1 : ((kd.toNat : Nat) : Int) = kd := Int.toNat_of_nonneg (by omega)
  have k2 : ((ep.toNat : Nat) : Int) = ep := Int.toNat_of_nonneg h1.1
  have k3 : ((n.toNat : Nat) : Int) = n := Int.toNat_of_nonneg h2.1
  have k4 : ((tk.toNat : Nat) : Int) = tk := Int.toNat_of_nonneg c
  have b1 : ep.toNat < 2 ^ (8 * 8) := by have := h1.2; omega
  have b2 : n.toNat < 2 ^ (8 * 8) := by have := h2.2; omega
  have b3 : tk.toNat < 2 ^ (8 * 2) := by omega
  rw [e]
  unfold rControl
  simp only [num_one, num_be 8 _ _ _ b1, num_be 8 _ _ _ b2, num_be 2 _ _ _ b3, k1, k2, k3, k4]
  rw [if_pos (by omega)]
theorem ctb_byts (kd ep n tk : Int) (h : cfits kd tk = true) : Byts (ctb kd ep n tk) := by
  obtain ⟨a, b, c, d⟩ := of_decide_eq_true h
  exact Byts.cons (by omega) ((Byts.be _ _).app ((Byts.be _ _).app (Byts.be _ _)))
theorem ctb_len (kd ep n tk : Int) : (ctb kd ep n tk).length = 19 := by simp [ctb, be_length]
end Go.Proofs.YtbfhcbihgleddaaGreatDoor
