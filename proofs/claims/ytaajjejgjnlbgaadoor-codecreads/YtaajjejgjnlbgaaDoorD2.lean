/-
  The document's readers: seals, manifests.
-/
import Derived.Test.YtaajjejgjnlbgaaDoorD1
import Derived.Test.YtaajjejgjnlbgaaDoorRefSeal
import Derived.Test.YtaajjejgjnlbgaaDoorQuiet
import Derived.Test.YtaajjejgjnlbgaaDoorRefMan
namespace Go.Proofs.YtaajjejgjnlbgaaDoor
open Go.RowKit

theorem RdSD.view {R : Nat} {w : World} {s : List Nat × Bool} (h : RdSD R w s) : ∃ ao cap, w.cell? ⟨R, 0, none⟩ = some (.slice ao s.1.length cap) ∧ w.cell? ⟨R, 1, none⟩ = some (.bool s.2) ∧ s.1.length ≤ cap ∧ cap ≤ 9223372036854775807 ∧ Seg w (.slice ao s.1.length cap) s.1 := by
  have hR := h.lt
  obtain ⟨⟨v, hbx, hsg⟩, hb⟩ := h
  have hs := hsg.seg (by omega)
  obtain ⟨ao, cap, rfl, h1, h2, _⟩ := hsg
  exact ⟨ao, cap, hbx.cells2.1, hbx.cells2.2, h1, h2, hs⟩
/-- What the document's Open tells. -/
def rOpenD (l : List Nat) : Option (List Nat) :=
  if (numD 4 (l, false)).1 ≤ 1048576 ∧ (numD 4 (numD 4 (l, false)).2).2.2 = false ∧ (numD 4 (l, false)).1 ≤ (numD 4 (numD 4 (l, false)).2).2.1.length ∧ crc ((numD 4 (numD 4 (l, false)).2).2.1.take (numD 4 (l, false)).1) = (numD 4 (numD 4 (l, false)).2).1
  then some ((numD 4 (numD 4 (l, false)).2).2.1.take (numD 4 (l, false)).1) else none

set_option maxHeartbeats 2000000 in
set_option maxRecDepth 100000 in
theorem OpenD_any (v : Value) (l : List Nat) (w : World) (h : Seg w v l) (hb : Byts l) : Calls Tryd.prog 32 #[v] w (OpenPost w (rOpenD l)) := by
  have hr0 := RdSD.start h hb
  obtain ⟨ao, cap, rfl, h1, h2, h3, h4⟩ := h
  clear h4
  generalize hro : rOpenD l = ro
  unfold rOpenD at hro
  have hsl : (numD 4 (l, false)).1 < 4294967296 := numD_lt (k := 4) hb
  generalize hp0 : numD 4 (l, false) = p0 at hro hsl
  obtain ⟨size, s0⟩ := p0
  have HP0 := hide hp0
  clear hp0
  dsimp only at hro hsl
  generalize hp1 : numD 4 s0 = p1 at hro
  obtain ⟨sum, s1, bad⟩ := p1
  have HP1 := hide hp1
  clear hp1
  dsimp only at hro
  have HR := hide hro
  clear hro
  have N0 := numD_any (sz := 4) hr0 (by omega) (by omega)
  rw [show (4 : Int).toNat = 4 from rfl, HP0.out] at N0
  go_enter Tryd.func32, Tryd.ntmps32
  go_wp2_with fail
  refine N0.mono ?_
  rintro e w1 ⟨rfl, hr1, hg1⟩
  clear N0 hr0
  have N1 := numD_any (sz := 4) hr1 (by omega) (by omega)
  rw [show (4 : Int).toNat = 4 from rfl, HP1.out] at N1
  go_wp2_with fail
  refine N1.mono ?_
  rintro e w2 ⟨rfl, hr2, hg2⟩
  have hG := grownBy_trans (grownBy_trans (grownBy_alloc' w _ (some w.heap.size)) hg1) hg2
  have hbel := Below.of_grown hG (Nat.le_refl _) (Nat.le_refl _)
  have hR := hr2.lt
  have hbt := hr2.2
  obtain ⟨ao', cap', r0, r1, hlc, hcm, hsg⟩ := hr2.view
  have HSG := hide hsg
  clear hg1 hg2 hr1 N1 hG hsg hr2
  dsimp only at r0 r1 hlc hbt
  have hl3 : s1.length ≤ 140737488355328 := by obtain ⟨_, _, _, _, _, h, _⟩ := HSG.out; exact h
  have hwl : IntKind.u64.wrap (s1.length : Int) = s1.length := by rw [IntKind.wrap_u64]; omega
  cases bad
  rotate_left
  · go_wp2
    go_ret3
    refine OpenPost.no ?_ hbel
    rw [← HR.out, if_neg (fun h => by cases h.2.1)]
  by_cases hsz : 1048576 < size
  · go_wp2
    go_ret3
    refine OpenPost.no ?_ hbel
    rw [← HR.out, if_neg (fun h => by have := h.1; omega)]
  by_cases hle : s1.length < size
  · go_wp2
    go_ret3
    refine OpenPost.no ?_ hbel
    rw [← HR.out, if_neg (fun h => by have := h.2.2.1; omega)]
  have hw : wrap64 (size : Int) = size := by unfold wrap64; omega
  have hsz' : size ≤ 1048576 := by omega
  have hle' : size ≤ s1.length := by omega
  have hcp : size ≤ cap' := by omega
  have hst := HSG.out.first size hle'
  have HST := hide hst
  have hcall := refSum_any _ (s1.take size) w2 hst (hbt.take size)
  have hcl := crc_lt (s1.take size) (hbt.take size)
  have hwc : IntKind.u64.wrap (crc (s1.take size) : Int) = crc (s1.take size) := by rw [IntKind.wrap_u64]; omega
  have hlen : (s1.take size).length = size := by simp; omega
  have HL := hide hlen
  clear hst hlen
  generalize hcr : crc (s1.take size) = cr at *
  have HC := hide hcr
  clear hcr
  go_wp2_with fail
  refine hcall.mono ?_
  rintro e w3 ⟨rfl, rfl⟩
  clear hcall
  by_cases hce : cr = sum
  · have e1 : ((cr : Int) != (sum : Int)) = false := by simp [hce]
    have HCE := hide hce
    clear hce
    go_wp2_with (first | (at_builtin; refine app_seg rfl _ _ rfl w.heap.size _ [] rfl (Own.nil _ _) _ (s1.take size) rfl HST.out (by have := HL.out; simp only [List.length_nil]; omega) (by omega) ?_) | fail)
    intro v4 w4 ho4 hk4
    have hbel := hbel.trans (hk4.below (by omega))
    have hp := OpenPost.yes (r := ro) (l := s1.take size) (by rw [← HR.out, if_pos ⟨hsz', by trivial, hle', HCE.out⟩]) ho4 hbel
    rw [HL.out] at hp
    have HPP := hide hp
    clear hp hk4 ho4
    have e8 : (size : Int) + 8 = 8 + (size : Int) := by omega
    go_wp2
    go_ret3
    exact HPP.out
  · have e1 : ((cr : Int) != (sum : Int)) = true := by simp; omega
    have HCE := hide hce
    clear hce
    go_wp2
    go_ret3
    refine OpenPost.no ?_ hbel
    rw [← HR.out, if_neg (fun h => HCE.out h.2.2.2)]

/-- append's law at rows of strings, as one step of a region that draws. -/
theorem step_ownS {ops : Array Oper} {o : Oper} {a : Act} {w : World} {K : Act → World → Prop} {Q : Exit → Act → World → Prop} {E : Prop} (hgd : o.guard = none) (s x : Operand)
    (ho : o.op = .call { callee := .builtin .append, args := #[s, x], argTypes := #[55, 55] }) (base : Nat) (v : Value) (ss : List ByteArray) (hs : a.eval s = v) (hown : OwnS base w v ss)
    (ad : Addr) (c : Nat) (st : ByteArray) (hx : a.eval x = .slice (some ad) 1 c) (hnews : w.cell? (ad.add 0) = some (.string st)) (hl : ss.length ≤ 1000000) (hbase : base ≤ w.heap.size)
    (h : ∀ v' w', OwnS base w' v' (ss ++ [st]) → w.grownBy w' v.ownBlock → K (a.put o.dst v') w') : if Region.wanted o (yielded ops a.tmps) = true then Oper.wp Tryd.prog o a w K Q else E := by
  have hw : Region.wanted o (yielded ops a.tmps) = true := by simp [Region.wanted, hgd]
  rw [if_pos hw]
  obtain ⟨i0, hi, hz0, hz1, hz2⟩ := info_parts Tryd.info9
  refine wp_append_own w s x 55 ho base 9 i0 (.string ByteArray.empty) 1 16 Tryd.underlying55 hi hz0 hz1 hz2 rfl (by decide) v ss.length (ss.map Value.string) hs hown ad 1 c [.string st] hx rfl ?_ ?_ ?_ ?_ hbase ?_
  · intro j u hj
    match j, hj with
    | 0, hj => simp at hj; subst hj; exact hnews
  · intro u hu; simp at hu; subst hu; rfl
  · unfold maxLen; omega
  · omega
  · intro v' w' h1 h2 _
    refine h v' w' ?_ h2
    show w'.ownsRow base 9 1 v' (ss ++ [st]).length ((ss ++ [st]).map Value.string)
    rw [List.length_append, List.map_append]; exact h1
theorem OwnS.drew {base : Nat} {w : World} {v : Value} {ss : List ByteArray} (h : OwnS base w v ss) : OwnS base w.drew v ss := h
theorem grown_undrew {a w : World} {r : Option Nat} (h : a.drew.grownBy w r) : a.grownBy w r := ⟨h.os, h.tape, h.output, h.size, h.block⟩
theorem below_more {B : Nat} {a w : World} (h : Below B a w) (ha : B ≤ a.heap.size) (o : Obj) : Below B a (w.alloc o) := h.alloc (Nat.le_trans ha h.size) o
theorem below_row {B : Nat} {a w w' : World} {v : Value} (h : Below B a w) (hv : ∀ g, v.ownBlock = some g → B ≤ g) (ha : B ≤ a.heap.size) (hg : w.grownBy w' v.ownBlock) : Below B a w' :=
  h.trans ⟨hg.os, hg.tape, hg.output, hg.size, fun k hk => hg.block k (by have := h.size; omega) (fun e => by have := hv k e.symm; omega)⟩
theorem OwnS.at {base : Nat} {w : World} {v : Value} {ss : List ByteArray} (h : OwnS base w v ss) : ∀ g, v.ownBlock = some g → base ≤ g := fun g e => (World.ownsRow.lt h g e).1
theorem OwnS.back {base : Nat} {w w' : World} {v : Value} {ss : List ByteArray} (h : OwnS base w v ss) (hb : ∀ g, v.ownBlock = some g → w'.heap[g]? = w.heap[g]?) : OwnS base w' v ss := by
  refine ⟨h.1, ?_⟩
  rcases h.2 with h | ⟨g, cap, cur, rfl, h2, h3, h4⟩
  · exact .inl h
  · exact .inr ⟨g, cap, cur, rfl, h2, by rw [hb g rfl]; exact h3, h4⟩

/-- What the document reads of a manifest's names; none: refused at once. -/
def rNamesD : Nat → (List Nat × Bool) → Option (List ByteArray × (List Nat × Bool))
  | 0, s => some ([], s)
  | n + 1, s => if s.2 then some ([], s) else
    if (numD 1 s).2.2 = true ∨ (numD 1 s).2.1.length < (numD 1 s).1 ∨ 32 < (numD 1 s).1 then none
    else (rNamesD n ((numD 1 s).2.1.drop (numD 1 s).1, false)).map fun q => (strOf ((numD 1 s).2.1.take (numD 1 s).1) :: q.1, q.2)
theorem rNamesD_bad (n : Nat) (l : List Nat) : rNamesD n (l, true) = some ([], (l, true)) := by cases n <;> rfl
/-- What the document reads of a manifest. -/
def rManD (l : List Nat) : Option Man :=
  match rNamesD (numD 2 (numD 8 (numD 8 (l, false)).2).2).1 (numD 2 (numD 8 (numD 8 (l, false)).2).2).2 with
  | none => none
  | some q => if done q.2 then some ⟨(numD 8 (l, false)).1, (numD 8 (numD 8 (l, false)).2).1, q.1⟩ else none

/-- In the midst of the document's OpenManifest. -/
structure MR (w W : World) (M : Nat) (n ep : Nat) (v : Value) (s : List Nat × Bool) : Prop where
  rd : RdSD (w.heap.size + 1) W s
  bm : BoxT 57 W M #[.int .u64 n, .int .u64 ep, v]
  ba : BoxT 57 W w.heap.size #[.int .u64 0, .int .u64 0, .slice none 0 0]
  bel : Below w.heap.size w W
  lt : w.heap.size + 1 < M
section
variable {w W W' : World} {M n ep : Nat} {v : Value} {s s' : List Nat × Bool}
theorem MR.call (h : MR w W M n ep v s) (hr : RdSD (w.heap.size + 1) W' s') (hg : W.grownBy W' (some (w.heap.size + 1))) : MR w W' M n ep v s' := by
  have := h.lt
  have hz := h.bel.size
  exact ⟨hr, h.bm.grown hg (by omega), h.ba.grown hg (by omega), h.bel.trans (Below.of_grown hg (by omega) hz), h.lt⟩
theorem MR.below (h : MR w W M n ep v s) (hb : Below (M + 1) W W') : MR w W' M n ep v s := by
  have := h.lt
  have hm := h.bm.lt
  refine ⟨h.rd.keep fun i hi => hb.block i (by omega), ?_, ?_, h.bel.trans (hb.mono (by omega)), h.lt⟩
  · have := h.bm; unfold BoxT at *; rw [hb.block M (by omega)]; exact this
  · have := h.ba; unfold BoxT at *; rw [hb.block w.heap.size (by omega)]; exact this
theorem MR.set (h : MR w W M n ep v s) (u : Value) : MR w (W.setCell ⟨M, 2, none⟩ u) M n ep u s := by
  have := h.lt
  exact ⟨h.rd.set _ _ _ (by omega), h.bm.set 2 u, h.ba.other _ _ (by omega), h.bel.trans ((Below.refl _ _).setCell (by show _ ≤ M; omega) _), h.lt⟩
end
theorem RdSD.cut {R : Nat} {w : World} {l : List Nat} (h : RdSD R w (l, false)) (k : Nat) (hk : k ≤ l.length) : ∃ ao cap, w.cell? ⟨R, 0, none⟩ = some (.slice ao l.length cap) ∧ l.length ≤ cap ∧ cap ≤ 9223372036854775807 ∧ w.frozen? ⟨R, 0, none⟩ = false ∧ (l = [] ∨ ∃ b off, ao = some ⟨b, off, none⟩) ∧
    ∀ (a : Option Addr) (c : Nat), (l.length = k ∧ c ≤ 9223372036854775807 ∨ (∃ b off, ao = some ⟨b, off, none⟩ ∧ a = some ⟨b, off + k, none⟩) ∧ l.length - k ≤ c ∧ c ≤ 9223372036854775807) → RdSD R (w.setCell ⟨R, 0, none⟩ (.slice a (l.length - k) c)) (l.drop k, false) := by
  have hR := h.lt
  obtain ⟨⟨v, hbx, ao, cap, rfl, h1, h2, h3, h4⟩, hb⟩ := h
  dsimp only at *
  refine ⟨ao, cap, hbx.cells2.1, h1, h2, hbx.free 0, ?_, ?_⟩
  · rcases h4 with h4 | ⟨b, off, h5, _⟩
    · exact .inl h4
    · exact .inr ⟨b, off, h5⟩
  · intro a c hac
    have hg := grownBy_set w R 0 (.slice a (l.length - k) c)
    refine ⟨⟨_, hbx.set 0 _, SegB.grown ?_ hg (by omega)⟩, hb.drop k⟩
    refine ⟨a, c, by rw [List.length_drop], by rw [List.length_drop]; omega, by omega, by rw [List.length_drop]; omega, ?_⟩
    rcases hac with ⟨hac, _⟩ | ⟨⟨b, off, e1, e2⟩, _⟩
    · exact .inl (List.drop_eq_nil_of_le (by omega))
    · rcases h4 with h4 | ⟨b', off', h5, h6, h7⟩
      · exact .inl (by rw [h4]; simp)
      · rw [e1] at h5
        simp only [Option.some.injEq, Addr.mk.injEq, and_true] at h5
        obtain ⟨rfl, rfl⟩ := h5
        refine .inr ⟨b, off + k, e2, h6, fun i x hx => ?_⟩
        rw [List.getElem?_drop] at hx
        rw [Nat.add_assoc]
        exact h7 _ x hx
end Go.Proofs.YtaajjejgjnlbgaaDoor
