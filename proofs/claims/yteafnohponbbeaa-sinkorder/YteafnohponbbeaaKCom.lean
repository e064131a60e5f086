/-
  Commit that does nothing.
-/
import Derived.Test.YteafnohponbbeaaKAbort
namespace Go.Proofs.Yteafnohponbbeaa
open Go.RowKit

/-- Is there a staged one of just that number? -/
def hasN (s : PS) (n : Nat) : Bool := match (s.stg.filter (fun x => decide (x.1 ≤ n))).getLast? with | none => false | some x => x.1 == n
def keptP (l : List (Nat × List Rc)) : List (Nat × List Rc) := l.filter (fun x => !x.2.isEmpty)
def dueS (s : PS) (n : Nat) : List (Nat × List Rc) := s.stg.filter (fun x => decide (x.1 ≤ n))
def commitS (s : PS) (n : Nat) : PS := ⟨s.com ++ keptP (dueS s n), s.stg.filter (fun x => decide (n < x.1)), n⟩
def outS (s : PS) (n : Nat) : List (List Rc) := (keptP (dueS s n)).map Prod.snd
def kp (l : List Tx) : List Tx := l.filter (fun x => !x.rs.isEmpty)
theorem pr_filter2 (l : List Tx) (n : Nat) : (l.map Tx.pr).filter (fun x => decide (n < x.1)) = (l.filter (fun x => decide (n < x.n))).map Tx.pr := by
  induction l with
  | nil => rfl
  | cons x l ih =>
    rw [List.map_cons, List.filter_cons, List.filter_cons, ih]
    show (if decide (n < x.n) = true then _ else _) = _
    split
    · rw [List.map_cons]
    · rfl
theorem pr_kept (l : List Tx) : keptP (l.map Tx.pr) = (kp l).map Tx.pr := by
  unfold keptP kp
  induction l with
  | nil => rfl
  | cons x l ih =>
    rw [List.map_cons, List.filter_cons, List.filter_cons, ih]
    show (if (!x.rs.isEmpty) = true then _ else _) = _
    split
    · rw [List.map_cons]
    · rfl
theorem hasN_eq (p : Pt) (n : Nat) : hasN p.ps n = match (p.stg.filter (fun x => decide (x.n ≤ n))).getLast? with | none => false | some x => x.n == n := by
  unfold hasN Pt.ps
  simp only
  rw [pr_filter, List.getLast?_map]
  cases (p.stg.filter (fun x => decide (x.n ≤ n))).getLast? <;> rfl
theorem kp_snoc (l : List Tx) (x : Tx) : kp (l ++ [x]) = if x.rs.isEmpty then kp l else kp l ++ [x] := by
  unfold kp
  rw [List.filter_append]
  cases h : x.rs.isEmpty <;> simp [h]
set_option maxHeartbeats 4000000 in
set_option maxRecDepth 100000 in
theorem Commit_early {w : World} {l mm : Nat} {ov : Value} {fq : Nat → Prop} {f : Int → PS} {O : List Tx} {W : Nat} {Ms : List Pt} (h : LX w l mm ov fq f O W Ms) (hW : W ≤ 500000) {k : Int} (hk : In64 k) {n : Nat} (hn : n ≤ (f k).last) :
    Calls Try.prog 13 #[.pointer (some ⟨l, 0, none⟩), .int .i64 k, .int .u64 (n : Int)] w fun e w' => e = .returned (.int .i64 0) ∧ Below w.heap.size w w' := by
  obtain ⟨p, R, P⟩ := h.pick hk
  have hlook := P.look w rfl
  obtain ⟨c0, c1⟩ := P.g.box.cells2
  have hp := P.g.pts p (List.mem_cons_self ..)
  have hpp := P.pl.pp p (List.mem_cons_self ..)
  obtain ⟨ca, cc, sa, sc, hcv, hsv, hv⟩ := hp.shape
  rw [hv] at hlook
  have hstg := hp.sr
  rw [hsv] at hstg
  have hlen : p.stg.length ≤ 500000 := by
    have := P.pl.wt
    rw [sumS_cons] at this
    have := sumw_len p.stg
    omega
  have hsc := hstg.own_shape.2
  have segs := hstg.seg Tx.cs_len (by omega)
  obtain ⟨cn, hcn⟩ : ∃ cn, p.com.length = cn := ⟨_, rfl⟩
  rw [hcn] at hcv hlook
  obtain ⟨sn, hsn⟩ : ∃ sn, p.stg.length = sn := ⟨_, rfl⟩
  rw [hsn] at hsv hlook hstg segs hsc
  have hn2 : (n : Int) ≤ (p.last : Int) := by rw [P.ps] at hn; have : n ≤ p.last := hn; omega
  obtain ⟨la, hla⟩ : ∃ la : Int, (p.last : Int) = la := ⟨_, rfl⟩
  rw [hla] at hlook hn2
  have hb1 := hide (below_box w (.cells #[.slice ca cn cc, .slice sa sn sc, .int .u64 la] 65))
  clear h P hp hpp hcv hsv hv hstg hlen hsc segs hcn hsn hla hn
  go_enter Try.func13, Try.ntmps13
  go_wp2_with (first | (at_lookup; refine wp_lookM rfl _ _ 59 false rfl _ _ rfl rfl hlook ?_) | fail)
  go_ret
  exact ⟨rfl, hb1.out⟩
set_option maxHeartbeats 4000000 in
set_option maxRecDepth 100000 in
theorem Commit_none {w : World} {l mm : Nat} {ov : Value} {fq : Nat → Prop} {f : Int → PS} {O : List Tx} {W : Nat} {Ms : List Pt} (h : LX w l mm ov fq f O W Ms) (hW : W ≤ 500000) {k : Int} (hk : In64 k) {n : Nat} (hn : (f k).last < n) (hno : hasN (f k) n = false) :
    Calls Try.prog 13 #[.pointer (some ⟨l, 0, none⟩), .int .i64 k, .int .u64 (n : Int)] w fun e w' => e = .returned (.int .i64 171) ∧ Below w.heap.size w w' := by
  obtain ⟨p, R, P⟩ := h.pick hk
  have hlook := P.look w rfl
  obtain ⟨c0, c1⟩ := P.g.box.cells2
  have hp := P.g.pts p (List.mem_cons_self ..)
  have hpp := P.pl.pp p (List.mem_cons_self ..)
  obtain ⟨ca, cc, sa, sc, hcv, hsv, hv⟩ := hp.shape
  rw [hv] at hlook
  have hstg := hp.sr
  rw [hsv] at hstg
  have hlen : p.stg.length ≤ 500000 := by
    have := P.pl.wt
    rw [sumS_cons] at this
    have := sumw_len p.stg
    omega
  have hsc := hstg.own_shape.2
  have segs := hstg.seg Tx.cs_len (by omega)
  obtain ⟨cn, hcn⟩ : ∃ cn, p.com.length = cn := ⟨_, rfl⟩
  rw [hcn] at hcv hlook
  obtain ⟨sn, hsn⟩ : ∃ sn, p.stg.length = sn := ⟨_, rfl⟩
  rw [hsn] at hsv hlook hstg segs hsc
  have hn2 : ¬ (n : Int) ≤ (p.last : Int) := by rw [P.ps] at hn; have : p.last < n := hn; omega
  rw [P.ps, hasN_eq] at hno
  obtain ⟨la, hla⟩ : ∃ la : Int, (p.last : Int) = la := ⟨_, rfl⟩
  rw [hla] at hlook hn2
  obtain ⟨W1, hW1⟩ : ∃ W1, W1 = w.alloc (.cells #[.slice ca cn cc, .slice sa sn sc, .int .u64 (la : Int)] 65) := ⟨_, rfl⟩
  have hb1 : Below w.heap.size w W1 := by rw [hW1]; exact below_box w _
  have k0 : BoxT 65 W1 w.heap.size #[.slice ca cn cc, .slice sa sn sc, .int .u64 (la : Int)] := by rw [hW1]; exact BoxT.new _ _ _
  have HU : Hid (Calls Try.prog 30 #[.slice sa sn sc, .int .u64 (n : Int)] W1 fun e w'' => (∃ k : Nat, e = .returned (.slice sa k sc) ∧ k ≤ p.stg.length ∧ p.stg.take k = p.stg.filter (fun x => decide (x.n ≤ n)) ∧ p.stg.drop k = p.stg.filter (fun x => decide (n < x.n))) ∧ Below W1.heap.size W1 w'') := upTo_any (segs.below hb1) hb1.size (by omega) (by omega) hpp.rs
  have HB1 := hide hb1
  have HSG := hide (segs.below hb1)
  have HNO := hide hno
  have HLE := hide hlen
  have HSN := hide hsn
  clear h P hp hpp hcv hsv hv hstg hlen hsc segs hcn hsn hla hn hb1 k0 hno
  go_enter Try.func13, Try.ntmps13
  go_upto_region 5 with (first | (at_lookup; refine wp_lookM rfl _ _ 59 false rfl _ _ rfl rfl hlook ?_) | (go_at_call 30; rw [← hW1]; refine HU.out.mono ?_; rintro e w2 ⟨⟨k1, rfl, hk1, q1, q2⟩, b2⟩; have B2 := hide b2; have Q1 := hide q1; have HK1 := hide hk1; clear b2 q1 q2 hk1) | fail)
  clear hlook hW1 HU hn2
  have HSG2 := hide (LSeg.take (HSG.out.below (B2.out.mono HB1.out.size)) HK1.out)
  have HEND := hide (HB1.out.trans (B2.out.mono HB1.out.size))
  have HLT : Hid ((p.stg.take k1).length = k1) := (show _ = _ by rw [List.length_take]; have := HK1.out; omega)
  by_cases h0 : k1 = 0
  · subst h0
    go_wp2_with fail
    go_ret
    exact ⟨rfl, HEND.out⟩
  · obtain ⟨m, rfl⟩ : ∃ m, k1 = m + 1 := ⟨k1 - 1, by omega⟩
    obtain ⟨x, hx⟩ := get_of_lt (show m < (p.stg.take (m + 1)).length by have := HLT.out; omega)
    have hne : x.n ≠ n := fun e => by
      have h1 := HNO.out
      rw [← Q1.out, List.getLast?_eq_getElem?, HLT.out, Nat.add_sub_cancel, hx] at h1
      simp [e] at h1
    obtain ⟨nb, no, rfl, nlt, e0, e1⟩ := HSG2.out.tx hx
    have bne : ((x.n : Int) != (n : Int)) = true := by simp; omega
    have bt : ((m + 1 : Nat) : Int) - 1 < ((m + 1 : Nat) : Int) := by omega
    have bz : ((m : Int) + 1 == 0) = false := by simp; omega
    have hm6 : m ≤ 500000 := by have := HK1.out; have := HLE.out; omega
    generalize x.n = xn at *
    clear hx h0 hne e1
    go_wp2_with fail
    go_ret
    exact ⟨rfl, HEND.out⟩

end Go.Proofs.Yteafnohponbbeaa
