/-
  Walks over package net: all of a link's things; a ring's Clear.
-/
import Derived.Test.YtnomoekbfclckaaNLkI
import Derived.Test.YtnomoekbfclckaaFHelp
namespace Go.Proofs.Ytnomoekbfclckaa
open Go.RowKit

theorem stop_here {p : Prop} (h : Hid p) : p := h
/-- append's law: all of ys, which lie at ad, behind xs. -/
theorem app_ownC {α : Type} {t sl sz by_ : Nat} {z : Value} {cs : α → List Value} (hinfo : (Try.prog.info? t).map (fun i => (i.zero, i.size, i.bytes)) = some (some z, sz, by_)) (hund : Try.prog.underlying sl = some (.slice t)) (hz : z.cells.size = sz) (hsz : 0 < sz) (hby : by_ ≤ 100)
    (hcs : ∀ x, (cs x).length = sz) (h1c : ∀ x, ∀ u ∈ cs x, u.oneCell' = true)
    {w : World} {ops : Array Oper} {rest : List Oper} {o : Oper} {a : Act} {Q : Exit → Act → World → Prop} (hgd : o.guard = none) (s x : Operand)
    (ho : o.op = .call { callee := .builtin .append, args := #[s, x], argTypes := #[sl, sl] }) (base : Nat) (v : Value) (xs : List α) (hs : a.eval s = v) (hown : OwnL t sz cs base w v xs)
    (ad : Addr) (c : Nat) (ys : List α) (hx : a.eval x = .slice (some ad) ys.length c) (hcell : ∀ j u, (ys.flatMap cs)[j]? = some u → w.cell? (ad.add j) = some u) (hl : xs.length + ys.length ≤ 1000000) (hbase : base ≤ w.heap.size)
    (h : ∀ v' w', OwnL t sz cs base w' v' (xs ++ ys) → w.grownBy w' v.ownBlock → wpList Try.prog ops Q rest (a.put o.dst v') w') : wpList Try.prog ops Q (o :: rest) a w := by
  obtain ⟨i0, hi, hz0, hz1, hz2⟩ := info_parts hinfo
  refine wpList_append_own w hgd s x sl ho base t i0 z sz by_ hund hi hz0 hz1 hz2 hz hsz v xs.length (xs.flatMap cs) hs hown ad ys.length c (ys.flatMap cs) hx (flat_size hcs ys) hcell ?_ ?_ ?_ hbase ?_
  · intro u hu
    simp only [List.mem_flatMap] at hu
    obtain ⟨y, _, hu⟩ := hu
    exact h1c y u hu
  · unfold maxLen; omega
  · have : (xs.length + ys.length) * by_ ≤ 1000001 * 100 := Nat.mul_le_mul (by omega) hby
    omega
  · intro v' w' h1 h2 _
    refine h v' w' ?_ h2
    show w'.ownsRow base t sz v' (xs ++ ys).length ((xs ++ ys).flatMap cs)
    rw [List.length_append, List.flatMap_append]; exact h1
theorem flat_i64 (q : List Int) (j : Nat) (u : Value) (h : (q.flatMap i64cs)[j]? = some u) : ∃ x, q[j]? = some x ∧ u = .int .i64 x := by
  have e : q.flatMap i64cs = q.map (Value.int .i64) := by
    clear h
    induction q with
    | nil => rfl
    | cons x q ih => rw [List.flatMap_cons, ih]; rfl
  rw [e, List.getElem?_map] at h
  cases hq : q[j]? with
  | none => rw [hq] at h; cases h
  | some x => rw [hq] at h; exact ⟨x, rfl, (Option.some.inj h).symm⟩
set_option maxHeartbeats 1000000 in
set_option maxRecDepth 100000 in
theorem AllI {w : World} {k b mo : Nat} {q : List Int} (H : Rg 85 3 (Value.int .i64) w k b mo q) (hl : q.length ≤ 1000) : Calls Try.prog 43 #[.pointer (some ⟨k, 0, none⟩)] w fun e w' => e = .returned (.slice (some ⟨w.heap.size, 0, none⟩) q.length q.length) ∧ InI w w' q q.length q.length := by
  obtain ⟨L, h, so, H⟩ := H
  obtain ⟨c0, c1, c2, c3⟩ := H.box.cells4
  have hin := hide (inSlotsI H (n := q.length) (Nat.le_refl _) (by omega) rfl)
  clear H
  go_enter Try.func43, Try.ntmps43
  go_wp2_with (first | (go_at_call 62; refine hin.out.mono ?_; rintro e w1 ⟨rfl, h1⟩) | fail)
  go_ret
  exact ⟨rfl, h1⟩
set_option maxHeartbeats 2000000 in
set_option maxRecDepth 100000 in
theorem allI {w : World} {fp : List Nat} {K o t : Nat} {cs : Array Value} {q : List Int} {v : Value} {ks : List Nat} (H : Ln 59 RI w fp K o t cs q v ks) (hl : q.length ≤ 1000) :
    Calls Try.prog 64 #[.pointer (some ⟨K, o, none⟩)] w fun e w' => ∃ v', e = .returned v' ∧ OwnL 3 1 i64cs w.heap.size w' v' q ∧ Below w.heap.size w w' := by
  obtain ⟨c0, c1⟩ := H.cells
  obtain ⟨i0, hi, hz0, hz1, hz2⟩ := info_parts Try.info3'
  obtain ⟨w1, hmk, how, hgr⟩ := run_make_own (P := Try.prog) w w.heap.size 35 3 i0 (.int .i64 0) 1 Try.underlying35 hi hz0 hz1 .i64 .i64 q.length (by rw [hz2]; omega) (by unfold maxLen; omega) (Nat.le_refl _)
  have b1 : Below w.heap.size w w1 := ⟨hgr.os, hgr.tape, hgr.output, hgr.size, fun i hi => hgr.block i hi (by simp)⟩
  have H1 := H.below rlI b1
  have B1 := hide b1
  have HO : Hid (OwnL 3 1 i64cs w.heap.size w1 (.slice (some ⟨w.heap.size, 0, none⟩) 0 q.length) []) := how
  clear how hgr b1 hz0 hz1 hz2
  rcases H1.rings with ⟨rfl, rfl⟩ | ⟨k, b, rfl, hq, hr, _⟩
  · obtain ⟨a, c, rfl⟩ := H.row.shape
    have d0 := H1.cells.1
    simp only [List.length_nil, Int.ofNat_zero] at c0 c1 d0 hmk
    clear H H1
    go_enter Try.func64, Try.ntmps64
    go_wp2_with fail
    go_loopw [3, 16] (fun a b wr => a = .slice (some ⟨w.heap.size, 0, none⟩) 0 0 ∧ b = .int .i64 0 ∧ wr = w1) (fun _ _ _ => 0)
    case atStart => exact ⟨rfl, rfl, rfl⟩
    case round =>
      obtain ⟨rfl, rfl, rfl⟩ := hrel
      go_wp2
      go_ret
      exact ⟨_, rfl, HO.out, B1.out⟩
  · obtain ⟨g, off, cap, hv, hcell⟩ := H1.row.read pc1 (i := 0) rfl
    subst hv
    have d2 := hcell 0 _ rfl
    simp only [Nat.zero_mul, Nat.add_zero] at d2
    have d0 := H1.cells.1
    simp only [List.length_singleton] at c0 d0
    have hgl := (H1.own g rfl).1
    have hgl2 := H1.lt g hgl
    have hal := hide (AllI hr hl)
    clear H H1 hcell hr
    go_enter Try.func64, Try.ntmps64
    go_wp2_with fail
    go_loopw [3, 16] (fun a b wr => (a = .slice (some ⟨w.heap.size, 0, none⟩) 0 q.length ∧ b = .int .i64 0 ∧ wr = w1) ∨ (∃ a' c', a = .slice a' q.length c' ∧ b = .int .i64 1 ∧ Hid (OwnL 3 1 i64cs w.heap.size wr a q ∧ Below w.heap.size w wr))) (fun _ b _ => 1 - (intOf b).toNat)
    case atStart => exact .inl ⟨rfl, rfl, rfl⟩
    case round =>
      rcases hrel with ⟨rfl, rfl, rfl⟩ | ⟨a', c', rfl, rfl, HE⟩
      · go_wp2_with (first
          | (go_at_call 43; refine hal.out.mono ?_; rintro e w2 ⟨rfl, h2⟩; have HI := hide h2; have hb2 := hide h2.bel; clear h2)
          | (at_builtin; refine stop_here ?_) | fail)
        have hcc : ∀ j u, (q.flatMap i64cs)[j]? = some u → w2.cell? ((⟨wr.heap.size, 0, none⟩ : Addr).add j) = some u := fun j u hu => by
          obtain ⟨x, hx, rfl⟩ := flat_i64 q j u hu
          obtain ⟨cs2, h1, h2, _, h4⟩ := HI.out.box
          rw [add_plain2, Nat.zero_add, h1.cellAt]
          exact h4 j x (List.getElem?_eq_some_iff.1 hx).1 hx
        have hsz := B1.out.size
        have hsz2 := hb2.out.size
        refine app_ownC Try.info3' Try.underlying35 rfl (by decide) (by decide) i64cs_len i64cs_one rfl _ _ rfl w.heap.size (.slice (some ⟨w.heap.size, 0, none⟩) 0 q.length) [] rfl (HO.out.below hb2.out) ⟨wr.heap.size, 0, none⟩ q.length q rfl hcc (by simp; omega) (by omega) ?_
        intro v3 w3 o3 g3
        rw [List.nil_append] at o3
        have HF : Hid (OwnL 3 1 i64cs w.heap.size w3 v3 q ∧ Below w.heap.size w w3) := by
          have hb := B1.out.trans (hb2.out.mono hsz)
          exact ⟨o3, ⟨g3.os.trans hb.os, g3.tape.trans hb.tape, g3.output.trans hb.output, Nat.le_trans hb.size g3.size, fun j hj => (g3.block j (Nat.lt_of_lt_of_le hj hb.size) (fun e => by simp [Value.ownBlock] at e; omega)).trans (hb.block j hj)⟩⟩
        obtain ⟨a3, c3, hv3⟩ := o3.shape
        subst hv3
        clear o3 g3
        go_wp2
        go_roundw
        case rel => exact .inr ⟨_, _, rfl, rfl, HF.out⟩
        case measure => simp [intOf]
      · go_wp2
        go_ret
        exact ⟨_, rfl, HE.out.1, HE.out.2⟩
set_option maxHeartbeats 1000000 in
set_option maxRecDepth 100000 in
theorem lAllI {w : World} {fp : List Nat} {K : Nat} {e : Int} {q : List Int} (H : LkI w fp K e q) (hl : q.length ≤ 1000) :
    Calls Try.prog 45 #[.pointer (some ⟨K, 0, none⟩)] w fun r w' => ∃ v', r = .returned v' ∧ OwnL 3 1 i64cs w.heap.size w' v' q ∧ Below w.heap.size w w' := by
  obtain ⟨cs, v, ks, h1, h2, H⟩ := H
  have hal := hide (allI H hl)
  clear H
  go_enter Try.func45, Try.ntmps45
  go_wp2_with (first | (go_at_call 64; refine hal.out.mono ?_; rintro r w1 ⟨v', rfl, o1, b1⟩; have HF := hide (And.intro o1 b1); obtain ⟨a3, c3, hv3⟩ := o1.shape; subst hv3; clear o1 b1) | fail)
  go_ret
  exact ⟨_, rfl, HF.out.1, HF.out.2⟩
set_option maxHeartbeats 1000000 in
set_option maxRecDepth 100000 in
theorem ClearI {w : World} {k b mo : Nat} {q : List Int} (H : Rg 85 3 (Value.int .i64) w k b mo q) : Calls Try.prog 67 #[.pointer (some ⟨k, 0, none⟩)] w fun e w' => e = .returned (.tuple #[]) ∧ Rg 85 3 (Value.int .i64) w' k k mo [] ∧ Turned k b w w' := by
  obtain ⟨L, h, so, H⟩ := H
  obtain ⟨c0, c1, c2, c3⟩ := H.box.cells4
  have cf := H.box.free
  have HB := hide (((H.box.set 1 (.slice none 0 0)).set 2 (.int .i64 0)).set 3 (.int .i64 0))
  have HT : Hid (Turned k b w (((w.setCell ⟨k, 1, none⟩ (.slice none 0 0)).setCell ⟨k, 2, none⟩ (.int .i64 0)).setCell ⟨k, 3, none⟩ (.int .i64 0))) := ((Turned.set k b w 1 _).trans (Turned.set k b _ 2 _)).trans (Turned.set k b _ 3 _)
  clear H
  go_enter Try.func67, Try.ntmps67
  go_wp2
  go_end0
  exact ⟨rfl, ⟨0, 0, none, by simpa using HB.out, by simp, by omega, .inl ⟨rfl, rfl, rfl, rfl⟩⟩, HT.out⟩
end Go.Proofs.Ytnomoekbfclckaa
