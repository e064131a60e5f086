/-
  A gate in a law; Place.
-/
import Derived.Test.YtmipgfobggbndaaGKnown
namespace Go.Proofs.Ytmipgfobggbndaa
open Go.RowKit

def plc (i n : Int) : Int := if i.tmod n < 0 then i.tmod n + n else i.tmod n
theorem plc_in {i n : Int} (h : 1 ≤ n) : 0 ≤ plc i n ∧ plc i n < n := by
  unfold plc
  have h1 := Int.tmod_lt_of_pos i (show 0 < n by omega)
  have h2 : -n < i.tmod n := by
    have := Int.tmod_lt_of_pos (-i) (show 0 < n by omega)
    rw [Int.neg_tmod] at this
    omega
  split <;> omega
set_option maxRecDepth 100000 in
theorem hPlace_any (w : World) (i : Int) {n : Int} (h : 1 ≤ n) (hn : n ≤ 1000000) : Calls Try.prog 25 #[.int .i64 i, .int .i64 n] w fun e w' => e = .returned (.int .i64 (plc i n)) ∧ w = w' := by
  have hz : n ≠ 0 := by omega
  obtain ⟨k1, k2⟩ := plc_in (i := i) h
  unfold plc at *
  by_cases hm : i.tmod n < 0
  · rw [if_pos hm] at *
    have f1 : wrap64 (i.tmod n + n) = i.tmod n + n := by unfold wrap64; omega
    generalize hR : i.tmod n + n = R at *
    have HR := hide hR
    clear hR
    go_enter Try.func25, Try.ntmps25
    go_wp2_with fail
    go_ret
    exact ⟨ret_int (by first | exact f1 | (rw [HR.out]; exact f1) | exact HR.out), rfl⟩
  · rw [if_neg hm] at *
    go_enter Try.func25, Try.ntmps25
    go_wp2_with fail
    go_ret
    exact ⟨rfl, rfl⟩
/-- A gate that a law made. -/
def GW (w0 : World) (k : Nat) (s : Gs) (w : World) : Prop := ∃ fp, GA w k fp s ∧ Below w0.heap.size w0 w ∧ ∀ i, fp i → w0.heap.size ≤ i
section
variable {w0 w w' : World} {k : Nat} {s : Gs}
theorem GW.below (h : GW w0 k s w) (hb : Below w.heap.size w w') : GW w0 k s w' := by
  obtain ⟨fp, h1, h2, h3⟩ := h
  exact ⟨fp, h1.below hb, h2.trans (hb.mono h2.size), h3⟩
theorem GW.alloc (h : GW w0 k s w) (o : Obj) : GW w0 k s (w.alloc o) := h.below (below_box w o)
theorem GW.drew (h : GW w0 k s w) : GW w0 k s w.drew := h.below ((Below.refl _ _).drew)
theorem GW.bel (h : GW w0 k s w) : Below w0.heap.size w0 w := by
  obtain ⟨fp, h1, h2, h3⟩ := h
  exact h2
theorem GW.turn {fp fp' : Nat → Prop} {s' : Gs} (h2 : Below w0.heap.size w0 w) (h3 : ∀ i, fp i → w0.heap.size ≤ i) (g : GA w' k fp' s') (t : FT fp fp' w w') : GW w0 k s' w' :=
  ⟨fp', g, h2.trans (t.below h2.size h3), fun i hi => by
    rcases t.sub i hi with e | e
    · exact h3 i e
    · exact Nat.le_trans h2.size e⟩
theorem GW.new {w1 : World} (hb : Below w0.heap.size w0 w1) {fp : Nat → Prop} (g : GA w k fp s) (b : Below w1.heap.size w1 w) (l : ∀ i, fp i → w1.heap.size ≤ i) : GW w0 k s w := ⟨fp, g, hb.trans (b.mono hb.size), fun i hi => Nat.le_trans hb.size (l i hi)⟩
def GT (w0 : World) (k : Nat) (s : Gs) (x : Sn) (er : Int) (e : Ending) (w' : World) : Prop := e = .returned (.tuple #[.agg #[.int .i64 x.kd, .int .i64 x.ke, .int .i64 x.ti, .int .i64 x.va, .int .i64 x.ma, .int .u64 x.n, .int .u64 x.fu], .int .i64 er]) ∧ GW w0 k s w'
theorem GW.take (h : GW w0 k s w) (ch : Int) (f : Fr) (hl : s.cp.length ≤ 100000) {s' : Gs} {x : Sn} {er : Int} (hs : s.tk ch f = s') (hx : s.tkS ch f = x) (he : s.tkE ch = er) :
    Calls Try.prog 13 #[.pointer (some ⟨k, 0, none⟩), .int .i64 ch, .agg #[.int .i64 f.kd, .int .i64 f.ke, .int .i64 f.ti, .int .i64 f.va, .int .i64 f.ma, .int .u64 f.n, .bool f.ov]] w (GT w0 k s' x er) := by
  obtain ⟨fp, h1, h2, h3⟩ := h
  have hc := Take_any h1 ch f hl
  rw [hs, hx, he] at hc
  refine hc.mono ?_
  rintro e w' ⟨rfl, fp', g', t'⟩
  exact ⟨rfl, GW.turn h2 h3 g' t'⟩
theorem GW.blocked (h : GW w0 k s w) (ch : Int) : Calls Try.prog 23 #[.pointer (some ⟨k, 0, none⟩), .int .i64 ch] w fun e w' => e = .returned (.bool (s.bl ch)) ∧ w = w' := by
  obtain ⟨fp, h1, h2, h3⟩ := h
  exact Blocked_any h1 ch
theorem GW.under (h : GW w0 k s w) : Calls Try.prog 19 #[.pointer (some ⟨k, 0, none⟩)] w fun e w' => e = .returned (.int .u64 s.un) ∧ w = w' := by
  obtain ⟨fp, h1, h2, h3⟩ := h
  exact Under_any h1
theorem GW.last (h : GW w0 k s w) : Calls Try.prog 20 #[.pointer (some ⟨k, 0, none⟩)] w fun e w' => e = .returned (.int .u64 s.la) ∧ w = w' := by
  obtain ⟨fp, h1, h2, h3⟩ := h
  exact Last_any h1
theorem GW.mark (h : GW w0 k s w) : Calls Try.prog 15 #[.pointer (some ⟨k, 0, none⟩)] w fun e w' => e = .returned (.int .i64 (least s.M)) ∧ w = w' := by
  obtain ⟨fp, h1, h2, h3⟩ := h
  exact Mark_any h1
end
/-- The states of GateNewer. -/
def nA (n : Nat) (over : Bool) : Nat → Gs
  | 0 => Gs.new n
  | i + 1 => (nA n over i).tk (i : Int) ⟨3, 0, 0, 0, 0, 4, over⟩
def nB (n : Nat) (over newer : Bool) (came : Nat) : Nat → Gs
  | 0 => nA n over came
  | j + 1 => (nB n over newer came j).tk ((n - 1 - j : Nat) : Int) ⟨3, 0, 0, 0, 0, 7, newer⟩
def nX (n : Nat) (over newer : Bool) (came j : Nat) : Sn := (nB n over newer came j).tkS ((n - 1 - j : Nat) : Int) ⟨3, 0, 0, 0, 0, 7, newer⟩
/-- The state is kept at this step. -/
def nK (n : Nat) (newer : Bool) (j : Nat) : Bool := if newer then j == 0 else j + 1 == n
def chkA (n : Nat) (over : Bool) (i : Nat) : Bool := (nA n over i).tkE (i : Int) == 0 && (nA n over (i + 1)).bl (i : Int) == !over && decide ((nA n over i).cp.length ≤ 10)
def chkM (n : Nat) (over : Bool) (came : Nat) : Bool := (nA n over came).un == 4 && (nA n over came).la == 4
def chkB (n : Nat) (over newer : Bool) (came j : Nat) : Bool :=
  (nB n over newer came j).tkE ((n - 1 - j : Nat) : Int) == 0 && decide ((nB n over newer came j).cp.length ≤ 10) && (nX n over newer came j).kd == (if nK n newer j then 3 else 0) && (nX n over newer came j).n == (if nK n newer j then 7 else 0) && (nX n over newer came j).fu == (if j + 1 == n then 7 else 0) &&
  (List.range n).all fun k => (nB n over newer came (j + 1)).bl (k : Int) == (!newer && decide (0 < n - 1 - j) && decide (n - 1 - j ≤ k))
def chkE (n : Nat) (over newer : Bool) (came : Nat) : Bool :=
  let s := nB n over newer came n
  let x := s.tkS ((n - 1 : Nat) : Int) ⟨3, 0, 0, 0, 0, 4, over⟩
  let s' := s.tk ((n - 1 : Nat) : Int) ⟨3, 0, 0, 0, 0, 4, over⟩
  s.tkE ((n - 1 : Nat) : Int) == 0 && decide (s.cp.length ≤ 10) && x.kd == 0 && x.ke == 0 && x.ti == 0 && x.va == 0 && x.ma == 0 && x.n == 0 && x.fu == 0 && s'.un == 0 && s'.la == 7
def chkN : Bool := (List.range 8).all fun n => (n < 2 : Bool) || [true, false].all fun over => (List.range n).all fun came => came == 0 || ((List.range came).all (chkA n over) && chkM n over came && [true, false].all fun newer => (List.range n).all (chkB n over newer came) && chkE n over newer came)
theorem chkN_true : chkN = true := by decide +kernel
end Go.Proofs.Ytmipgfobggbndaa
