/-
  Texts of the vault, in build order: RdListI, RdListP.
-/
import Derived.Test.YtbfhcbihgleddaaGreatDoorM12
/-
  Walks over package codec's readers of snapshots: the lists.
-/
namespace Go.Proofs.YtbfhcbihgleddaaGreatDoor
open Go.RowKit

/-- v is a slice of just the things xs, each of sz cells, at the head of a row of type t that lies from block base on. -/
def OwnL {α : Type} (t sz : Nat) (cs : α → List Value) (base : Nat) (w : World) (v : Value) (xs : List α) : Prop := w.ownsRow base t sz v xs.length (xs.flatMap cs)
section
variable {α : Type} {t sz : Nat} {cs : α → List Value} {base : Nat} {w w' : World} {v : Value} {xs : List α}
theorem OwnL.nil (t sz : Nat) (cs : α → List Value) (base : Nat) (w : World) : OwnL t sz cs base w (.slice none 0 0) [] := World.ownsRow_nil _ _ _ _
theorem OwnL.grown {R : Nat} (h : OwnL t sz cs base w v xs) (hg : w.grownBy w' (some R)) (hR : R < base) : OwnL t sz cs base w' v xs := by
  refine ⟨h.1, ?_⟩
  rcases h.2 with h | ⟨g, cap, cur, h1, h2, h3, h4⟩
  · exact .inl h
  · exact .inr ⟨g, cap, cur, h1, h2, by rw [hg.block g (Array.getElem?_eq_some_iff.1 h3).1 (by simp; omega)]; exact h3, h4⟩
theorem OwnL.alloc (h : OwnL t sz cs base w v xs) (o : Obj) : OwnL t sz cs base (w.alloc o) v xs := World.ownsRow.alloc h o
theorem OwnL.setBox {k b : Nat} {ca : Array Value} (h : OwnL t sz cs base w v xs) (hb : BoxT b w k ca) (ht : b ≠ t) (j : Nat) (u : Value) : OwnL t sz cs base (w.setCell ⟨k, j, none⟩ u) v xs := by
  refine ⟨h.1, ?_⟩
  rcases h.2 with h | ⟨g, cap, cur, h1, h2, h3, h4⟩
  · exact .inl h
  · refine .inr ⟨g, cap, cur, h1, h2, ?_, h4⟩
    rw [Below.heap_setCell w ⟨k, j, none⟩ u g]
    · exact h3
    · show g ≠ k
      intro e
      subst e
      unfold BoxT at hb
      rw [hb] at h3
      simp at h3
      exact ht h3.2
theorem OwnL.below (h : OwnL t sz cs base w v xs) (hb : Below w.heap.size w w') : OwnL t sz cs base w' v xs := by
  refine ⟨h.1, ?_⟩
  rcases h.2 with h | ⟨g, cap, cur, h1, h2, h3, h4⟩
  · exact .inl h
  · exact .inr ⟨g, cap, cur, h1, h2, by rw [hb.block g (Array.getElem?_eq_some_iff.1 h3).1]; exact h3, h4⟩
theorem OwnL.mono {base' : Nat} (h : OwnL t sz cs base w v xs) (hb : base' ≤ base) : OwnL t sz cs base' w v xs := by
  refine ⟨h.1, ?_⟩
  rcases h.2 with h | ⟨g, cap, cur, h1, h2, h3⟩
  · exact .inl h
  · exact .inr ⟨g, cap, cur, h1, by omega, h3⟩
theorem OwnL.rd {R : Nat} {s : List Nat × Bool} (h : RdS R w s) (ho : OwnL t sz cs base w v xs) (hg : w.grownBy w' v.ownBlock) (hR : R < base) : RdS R w' s :=
  h.keep fun i hi => hg.block i (by have := h.lt; omega) (fun e => by have := (World.ownsRow.lt ho i e.symm).1; omega)
theorem OwnL.grownBy {R : Nat} {w0 : World} (h : w0.grownBy w (some R)) (ho : OwnL t sz cs base w v xs) (hg : w.grownBy w' v.ownBlock) (hb : w0.heap.size ≤ base) : w0.grownBy w' (some R) :=
  ⟨hg.os.trans h.os, hg.tape.trans h.tape, hg.output.trans h.output, Nat.le_trans h.size hg.size, fun k hk hne => (hg.block k (Nat.lt_of_lt_of_le hk h.size) (fun e => by have := (World.ownsRow.lt ho k e.symm).1; omega)).trans (h.block k hk hne)⟩
theorem OwnL.shape (h : OwnL t sz cs base w v xs) : ∃ ao cap, v = .slice ao xs.length cap := by
  rcases h.2 with ⟨rfl, h0⟩ | ⟨g, cap, cur, rfl, _⟩
  · exact ⟨none, 0, by rw [h0]⟩
  · exact ⟨_, cap, rfl⟩
end
/-- append's law at such rows. -/
theorem app_ownL {α : Type} {t sl sz by_ : Nat} {z : Value} {cs : α → List Value} (hinfo : (Tryz.prog.info? t).map (fun i => (i.zero, i.size, i.bytes)) = some (some z, sz, by_)) (hund : Tryz.prog.underlying sl = some (.slice t)) (hz : z.cells.size = sz) (hsz : 0 < sz) (hby : by_ ≤ 100)
    (hcs : ∀ x, (cs x).length = sz) (h1c : ∀ x, ∀ u ∈ cs x, u.oneCell' = true)
    {w : World} {ops : Array Oper} {rest : List Oper} {o : Oper} {a : Act} {Q : Exit → Act → World → Prop} (hgd : o.guard = none) (s x : Operand)
    (ho : o.op = .call { callee := .builtin .append, args := #[s, x], argTypes := #[sl, sl] }) (base : Nat) (v : Value) (xs : List α) (hs : a.eval s = v) (hown : OwnL t sz cs base w v xs)
    (ad : Addr) (c : Nat) (y : α) (hx : a.eval x = .slice (some ad) 1 c) (hnews : ∀ j u, (cs y)[j]? = some u → w.cell? (ad.add j) = some u) (hl : xs.length ≤ 1000000) (hbase : base ≤ w.heap.size)
    (h : ∀ v' w', OwnL t sz cs base w' v' (xs ++ [y]) → w.grownBy w' v.ownBlock → wpList Tryz.prog ops Q rest (a.put o.dst v') w') : wpList Tryz.prog ops Q (o :: rest) a w := by
  obtain ⟨i0, hi, hz0, hz1, hz2⟩ := info_parts hinfo
  refine wpList_append_own w hgd s x sl ho base t i0 z sz by_ hund hi hz0 hz1 hz2 hz hsz v xs.length (xs.flatMap cs) hs hown ad 1 c (cs y) hx (by rw [hcs]; omega) hnews (h1c y) ?_ ?_ hbase ?_
  · unfold maxLen; omega
  · have : (xs.length + 1) * by_ ≤ 1000001 * 100 := Nat.mul_le_mul (by omega) hby
    omega
  · intro v' w' h1 h2 _
    refine h v' w' ?_ h2
    show w'.ownsRow base t sz v' (xs ++ [y]).length ((xs ++ [y]).flatMap cs)
    rw [List.length_append, List.flatMap_append]; simpa using h1
theorem Tryz.info2 : (Tryz.prog.info? 2).map (fun i => (i.zero, i.size, i.bytes)) = some (some (.int .i64 0), 1, 8) := by kernel_rfl
theorem Tryz.info145 : (Tryz.prog.info? 145).map (fun i => (i.zero, i.size, i.bytes)) = some (some (.agg #[.int .i64 0, .int .i64 0, .int .i64 0, .int .i64 0]), 4, 32) := by kernel_rfl
theorem Tryz.info151 : (Tryz.prog.info? 151).map (fun i => (i.zero, i.size, i.bytes)) = some (some (.agg #[.int .i64 0, .int .i64 0, .int .i64 0, .int .i64 0, .int .i64 0, .int .i64 0, .int .u64 0, .bool false]), 8, 64) := by kernel_rfl

/-- What readList reads by the reader rd: so many as it was told, till something is wrong. -/
def rL {α : Type} (rd : (List Nat × Bool) → α × (List Nat × Bool)) : Nat → (List Nat × Bool) → List α × (List Nat × Bool)
  | 0, s => ([], s)
  | n + 1, s => if s.2 then ([], s) else ((rd s).1 :: (rL rd n (rd s).2).1, (rL rd n (rd s).2).2)
theorem rL_bad {α : Type} (rd : (List Nat × Bool) → α × (List Nat × Bool)) (n : Nat) (l : List Nat) : rL rd n (l, true) = ([], (l, true)) := by cases n <;> rfl
theorem rL_len {α : Type} (rd : (List Nat × Bool) → α × (List Nat × Bool)) (n : Nat) : ∀ s, (rL rd n s).1.length ≤ n := by
  induction n with
  | zero => intro s; simp [rL]
  | succ n ih =>
    intro s
    unfold rL
    split
    · simp
    · simp only [List.length_cons]; have := ih (rd s).2; omega
/-- A list of at most most things. -/
def rList {α : Type} (rd : (List Nat × Bool) → α × (List Nat × Bool)) (most : Nat) (s : List Nat × Bool) : List α × (List Nat × Bool) :=
  if most < (num 2 s).1 then ([], ((num 2 s).2.1, true)) else rL rd (num 2 s).1 (num 2 s).2

set_option maxHeartbeats 2000000 in
set_option maxRecDepth 100000 in
theorem readListI_any {R : Nat} {w : World} {s : List Nat × Bool} (h : RdS R w s) :
    Calls Tryz.prog 138 #[.pointer (some ⟨R, 0, none⟩), .int .i64 65535, .func (.func 137) #[] #[]] w fun e w' => ∃ v, e = .returned v ∧ OwnL 2 1 ics w.heap.size w' v (rList (fun s => (i64of (num 8 s).1, (num 8 s).2)) 65535 s).1 ∧ RdS R w' (rList (fun s => (i64of (num 8 s).1, (num 8 s).2)) 65535 s).2 ∧ w.grownBy w' (some R) := by
  have hR := h.lt
  have hb0 := num_lt (k := 2) h.2
  have n0 := number_any (sz := 2) h (by omega) (by omega)
  rw [show (2 : Int).toNat = 2 from rfl] at n0
  unfold rList
  generalize num 2 s = p0 at *
  obtain ⟨n, s0⟩ := p0
  simp only at *
  have hn : n < 65536 := hb0
  rw [if_neg (by omega)]
  have hw : wrap64 (n : Int) = n := by unfold wrap64; omega
  have N0 := n0
  clear n0 hb0
  generalize hrd : (fun s : List Nat × Bool => (i64of (num 8 s).1, (num 8 s).2)) = rd
  have HRD : Hid ((fun s : List Nat × Bool => (i64of (num 8 s).1, (num 8 s).2)) = rd) := hrd
  generalize hrl : rL rd n s0 = rl
  have HRL : Hid (rL rd n s0 = rl) := hrl
  clear hrl hrd
  go_enter Tryz.func138, Tryz.ntmps138
  go_wp2_with fail
  refine N0.mono ?_
  rintro e w1 ⟨rfl, hr, hg⟩
  clear N0
  have HR1 : Hid (RdS R w1 s0) := hr
  clear hr
  go_wp2
  go_loopw [8, 9] (fun v i wr => ∃ (k : Nat) (sk : List Nat × Bool) (acc : List Int), k ≤ n ∧ i = .int .i64 k ∧ Hid (acc.length = k) ∧ Hid (RdS R wr sk) ∧ Hid (OwnL 2 1 ics w.heap.size wr v acc) ∧ Hid (w.grownBy wr (some R)) ∧ Hid (rl = (acc ++ (rL rd (n - k) sk).1, (rL rd (n - k) sk).2))) (fun _ i _ => n - (intOf i).toNat)
  case atStart => exact ⟨0, s0, [], Nat.zero_le _, rfl, rfl, HR1, OwnL.nil _ _ _ _ _, hg, by show rl = _; rw [← HRL.out]; rfl⟩
  case round =>
    obtain ⟨k, ⟨lk, bad⟩, acc, hk, rfl, HL, HRk, HO, HG, HE⟩ := hrel
    obtain ⟨ao, cap, r0, r1, rf⟩ := HRk.out.cells
    simp only at r0 r1
    clear r0
    by_cases hlt : k < n
    · cases bad
      · generalize hx : i64of (num 8 (lk, false)).1 = x
        have HX : Hid (i64of (num 8 (lk, false)).1 = x) := hx
        clear hx
        go_wp2_with fail
        refine (readSigned_any HRk.out).mono ?_
        rw [HX.out]
        rintro e w2 ⟨rfl, hr2, hg2⟩
        have ho2 := HO.out.grown hg2 hR
        have hG2 := grownBy_trans HG.out hg2
        have hz2 := hG2.size
        have HR2 : Hid (RdS R (w2.alloc (.cells #[.int .i64 x] 2)) (num 8 (lk, false)).2) := hr2.alloc _
        have HO2 : Hid (OwnL 2 1 ics w.heap.size (w2.alloc (.cells #[.int .i64 x] 2)) _ acc) := ho2.alloc _
        have HG3 : Hid (w.grownBy (w2.alloc (.cells #[.int .i64 x] 2)) (some R)) := grown_alloc hG2 _
        have hla : acc.length ≤ 1000000 := by have := HL.out; omega
        clear hr2 hg2 ho2 hG2
        go_wp2_with (first | (at_builtin; refine app_ownL Tryz.info2 Tryz.underlying23 rfl (by decide) (by decide) (fun _ => rfl) (fun y u hu => by simp [ics] at hu; subst hu; rfl) rfl _ _ rfl w.heap.size _ acc rfl HO2.out ⟨w2.heap.size, 0, none⟩ 1 x rfl (fun j u hu => by match j, hu with | 0, hu => simp [ics] at hu; subst hu; simp [Addr.add]) hla (by simp; omega) ?_) | fail)
        intro v3 w3 ho3 hg3
        have HO3 : Hid (OwnL 2 1 ics w.heap.size w3 v3 (acc ++ [x])) := ho3
        have HR3 : Hid (RdS R w3 (num 8 (lk, false)).2) := HO2.out.rd HR2.out hg3 hR
        have HG4 : Hid (w.grownBy w3 (some R)) := HO2.out.grownBy HG3.out hg3 (Nat.le_refl _)
        clear ho3 hg3 r1 rf
        go_wp2
        go_roundw
        case rel =>
          refine ⟨k + 1, (num 8 (lk, false)).2, acc ++ [x], by omega, by go_num, ?_, HR3, HO3, HG4, ?_⟩
          · show _ = _; rw [List.length_append, HL.out]; rfl
          · show rl = _
            rw [HE.out, show n - k = (n - (k + 1)) + 1 from by omega]
            have e1 : rd (lk, false) = (x, (num 8 (lk, false)).2) := by rw [← HRD.out, ← HX.out]
            simp [rL, e1]
        case measure => simp [intOf]; omega
      · go_wp2
        go_ret
        refine ⟨_, rfl, ?_, ?_, HG.out⟩
        · rw [HE.out, rL_bad]; simpa using HO.out
        · rw [HE.out, rL_bad]; exact HRk.out
    · go_wp2
      go_ret
      refine ⟨_, rfl, ?_, ?_, HG.out⟩
      · rw [HE.out, show n - k = 0 from by omega]; simpa [rL] using HO.out
      · rw [HE.out, show n - k = 0 from by omega]; exact HRk.out
end Go.Proofs.YtbfhcbihgleddaaGreatDoor
/-
  Walks over package codec's readers of snapshots: the lists of panes.
-/
namespace Go.Proofs.YtbfhcbihgleddaaGreatDoor
open Go.RowKit

set_option maxHeartbeats 2000000 in
set_option maxRecDepth 100000 in
theorem readListP_any {R : Nat} {w : World} {s : List Nat × Bool} (h : RdS R w s) :
    Calls Tryz.prog 139 #[.pointer (some ⟨R, 0, none⟩), .int .i64 4096, .func (.func 140) #[] #[]] w fun e w' => ∃ v, e = .returned v ∧ OwnL 145 4 Pn.cs w.heap.size w' v (rList rPane 4096 s).1 ∧ RdS R w' (rList rPane 4096 s).2 ∧ w.grownBy w' (some R) := by
  have hR := h.lt
  have hb0 := num_lt (k := 2) h.2
  have n0 := number_any (sz := 2) h (by omega) (by omega)
  rw [show (2 : Int).toNat = 2 from rfl] at n0
  unfold rList
  generalize num 2 s = p0 at *
  obtain ⟨n, s0⟩ := p0
  simp only at *
  have hn : n < 65536 := hb0
  have hw : wrap64 (n : Int) = n := by unfold wrap64; omega
  have N0 := n0
  clear n0 hb0
  by_cases hm : 4096 < n
  · rw [if_pos hm]
    go_enter Tryz.func139, Tryz.ntmps139
    go_wp2_with fail
    refine N0.mono ?_
    rintro e w1 ⟨rfl, hr, hg⟩
    clear N0
    obtain ⟨ao, cap, r0, r1, rf⟩ := hr.cells
    have hrb := hr.bad
    have hg := grownBy_trans hg (grownBy_set w1 R 1 (.bool true))
    obtain ⟨ao', cap', r0', r1', rf'⟩ := hrb.cells
    simp only at r1'
    clear hr r0 r0'
    go_wp2
    refine wp_loop_rounds 1 ?_
    rw [rounds_succ]
    go_wp2
    go_ret
    exact ⟨_, rfl, OwnL.nil _ _ _ _ _, hrb, hg⟩
  rw [if_neg hm]
  generalize hrl : rL rPane n s0 = rl
  have HRL : Hid (rL rPane n s0 = rl) := hrl
  clear hrl
  go_enter Tryz.func139, Tryz.ntmps139
  go_wp2_with fail
  refine N0.mono ?_
  rintro e w1 ⟨rfl, hr, hg⟩
  clear N0
  have HR1 : Hid (RdS R w1 s0) := hr
  clear hr
  go_wp2
  go_loopw [8, 9] (fun v i wr => ∃ (k : Nat) (sk : List Nat × Bool) (acc : List Pn), k ≤ n ∧ i = .int .i64 k ∧ Hid (acc.length = k) ∧ Hid (RdS R wr sk) ∧ Hid (OwnL 145 4 Pn.cs w.heap.size wr v acc) ∧ Hid (w.grownBy wr (some R)) ∧ Hid (rl = (acc ++ (rL rPane (n - k) sk).1, (rL rPane (n - k) sk).2))) (fun _ i _ => n - (intOf i).toNat)
  case atStart => exact ⟨0, s0, [], Nat.zero_le _, rfl, rfl, HR1, OwnL.nil _ _ _ _ _, hg, by show rl = _; rw [← HRL.out]; rfl⟩
  case round =>
    obtain ⟨k, ⟨lk, bad⟩, acc, hk, rfl, HL, HRk, HO, HG, HE⟩ := hrel
    obtain ⟨ao, cap, r0, r1, rf⟩ := HRk.out.cells
    simp only at r0 r1
    clear r0
    by_cases hlt : k < n
    · cases bad
      · generalize hx : rPane (lk, false) = px
        obtain ⟨x, sx⟩ := px
        have HX : Hid (rPane (lk, false) = (x, sx)) := hx
        clear hx
        go_wp2_with fail
        refine (readPane_any HRk.out).mono ?_
        rw [HX.out]
        rintro e w2 ⟨rfl, hr2, hg2⟩
        have ho2 := HO.out.grown hg2 hR
        have hG2 := grownBy_trans HG.out hg2
        have hz2 := hG2.size
        have HR2 : Hid (RdS R (w2.alloc (.cells #[.int .i64 x.ke, .int .i64 x.fr, .int .i64 x.to, .int .i64 x.ac] 145)) sx) := hr2.alloc _
        have HO2 : Hid (OwnL 145 4 Pn.cs w.heap.size (w2.alloc (.cells #[.int .i64 x.ke, .int .i64 x.fr, .int .i64 x.to, .int .i64 x.ac] 145)) _ acc) := ho2.alloc _
        have HG3 : Hid (w.grownBy (w2.alloc (.cells #[.int .i64 x.ke, .int .i64 x.fr, .int .i64 x.to, .int .i64 x.ac] 145)) (some R)) := grown_alloc hG2 _
        have hla : acc.length ≤ 1000000 := by have := HL.out; omega
        clear hr2 hg2 ho2 hG2
        simp only [Pn.cs]
        go_wp2_with (first | (at_builtin; refine app_ownL Tryz.info145 Tryz.underlying24 rfl (by decide) (by decide) (fun _ => rfl) (fun y u hu => by simp [Pn.cs] at hu; rcases hu with rfl | rfl | rfl | rfl <;> rfl) rfl _ _ rfl w.heap.size _ acc rfl HO2.out ⟨w2.heap.size, 0, none⟩ 1 x rfl (fun j u hu => by match j, hu with | 0, hu | 1, hu | 2, hu | 3, hu => simp [Pn.cs] at hu; subst hu; simp [Addr.add]) hla (by simp; omega) ?_) | fail)
        intro v3 w3 ho3 hg3
        have HO3 : Hid (OwnL 145 4 Pn.cs w.heap.size w3 v3 (acc ++ [x])) := ho3
        have HR3 : Hid (RdS R w3 sx) := HO2.out.rd HR2.out hg3 hR
        have HG4 : Hid (w.grownBy w3 (some R)) := HO2.out.grownBy HG3.out hg3 (Nat.le_refl _)
        clear ho3 hg3 r1 rf
        go_wp2
        go_roundw
        case rel =>
          refine ⟨k + 1, sx, acc ++ [x], by omega, by go_num, ?_, HR3, HO3, HG4, ?_⟩
          · show _ = _; rw [List.length_append, HL.out]; rfl
          · show rl = _
            rw [HE.out, show n - k = (n - (k + 1)) + 1 from by omega]
            simp [rL, HX.out]
        case measure => simp [intOf]; omega
      · go_wp2
        go_ret
        refine ⟨_, rfl, ?_, ?_, HG.out⟩
        · rw [HE.out, rL_bad]; simpa using HO.out
        · rw [HE.out, rL_bad]; exact HRk.out
    · go_wp2
      go_ret
      refine ⟨_, rfl, ?_, ?_, HG.out⟩
      · rw [HE.out, show n - k = 0 from by omega]; simpa [rL] using HO.out
      · rw [HE.out, show n - k = 0 from by omega]; exact HRk.out
end Go.Proofs.YtbfhcbihgleddaaGreatDoor
