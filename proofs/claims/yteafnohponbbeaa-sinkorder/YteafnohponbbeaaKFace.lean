/-
  The calls as a law sees them.
-/
import Derived.Test.YteafnohponbbeaaKHelp
namespace Go.Proofs.Yteafnohponbbeaa
open Go.RowKit

def stE (f : Int → PS) (k : Int) (n : Nat) : Int := if n ≤ grS (f k) then 170 else 0
def stF (f : Int → PS) (k : Int) (n : Nat) (rs : List Rc) : Int → PS := if n ≤ grS (f k) then f else upd f k (stageS (f k) n rs)
def cmE (f : Int → PS) (k : Int) (n : Nat) : Int := if n ≤ (f k).last then 0 else if hasN (f k) n then 0 else 171
def cmF (f : Int → PS) (k : Int) (n : Nat) : Int → PS := if n ≤ (f k).last then f else if hasN (f k) n then upd f k (commitS (f k) n) else f
def cmO (f : Int → PS) (k : Int) (n : Nat) : List (List Rc) := if n ≤ (f k).last then [] else if hasN (f k) n then outS (f k) n else []
def abF (f : Int → PS) (k : Int) (n : Nat) : Int → PS := upd f k (abortS (f k) n)
/-- What a call leaves of a log. -/
def LPost (w w' : World) (l : Nat) (fp : Nat → Prop) (f : Int → PS) (o : List (List Rc)) (W : Nat) : Prop := ∃ fp', LA w' l fp' f o W ∧ FT fp fp' w w'
theorem FT.congr {fp fp' fq fq' : Nat → Prop} {w w' : World} (h : FT fq fq' w w') (h1 : ∀ i, fp i ↔ fq i) (h2 : ∀ i, fp' i ↔ fq' i) : FT fp fp' w w' :=
  ⟨h.os, h.tape, h.output, h.size, fun i hi hn => h.block i hi (fun e => hn ((h1 i).2 e)), fun i hi => by
    rcases h.sub i ((h2 i).1 hi) with e | e
    · exact .inl ((h1 i).2 e)
    · exact .inr e⟩
theorem LPost.same {w w' : World} {l : Nat} {fp : Nat → Prop} {f : Int → PS} {o : List (List Rc)} {W : Nat} (h : LA w l fp f o W) (hb : Below w.heap.size w w') : LPost w w' l fp f o W := ⟨fp, h.below hb, FT.of_below hb⟩
theorem SPost.la {w w' : World} {l mm : Nat} {fp fq : Nat → Prop} {f : Int → PS} {O : List Tx} {o : List (List Rc)} {W : Nat} (h : SPost w w' l mm fq f O W) (ho : o = O.map Tx.rs) (hf : ∀ i, fp i ↔ FP l mm fq i) : LPost w w' l fp f o W := by
  obtain ⟨ov', fq', Ms', h1, h2⟩ := h
  exact ⟨FP l mm fq', ⟨mm, ov', fq', O, Ms', h1, ho, fun _ => Iff.rfl⟩, h2.congr hf (fun _ => Iff.rfl)⟩
theorem Stage_LA {w : World} {l : Nat} {fp : Nat → Prop} {f : Int → PS} {o : List (List Rc)} {W : Nat} (h : LA w l fp f o W) (hW : W ≤ 500000) {k : Int} (hk : In64 k) (n : Nat) {B : Nat} {rv : Value} {rs : List Rc} (hr : LSeg 3 Rc.cs B w rv rs) (hB : B ≤ w.heap.size) (hrl : rs.length ≤ 500000) :
    Calls Try.prog 11 #[.pointer (some ⟨l, 0, none⟩), .int .i64 k, .int .u64 (n : Int), rv] w fun e w' => e = .returned (.int .i64 (stE f k n)) ∧ LPost w w' l fp (stF f k n rs) o (W + rs.length + 1) := by
  have h0 := h
  obtain ⟨mm, ov, fq, O, Ms, h, ho, hf⟩ := h
  unfold stE stF
  by_cases hn : n ≤ grS (f k)
  · rw [if_pos hn, if_pos hn]
    refine (Stage_no h hW hk hn rv).mono ?_
    rintro e w' ⟨rfl, hb⟩
    exact ⟨rfl, LPost.same (h0.up (by omega)) hb⟩
  · rw [if_neg hn, if_neg hn]
    refine (Stage_yes h hW hk (by omega) hr hB hrl).mono ?_
    rintro e w' ⟨rfl, hs⟩
    exact ⟨rfl, hs.la ho hf⟩
theorem Commit_LA {w : World} {l : Nat} {fp : Nat → Prop} {f : Int → PS} {o : List (List Rc)} {W : Nat} (h : LA w l fp f o W) (hW : W ≤ 500000) {k : Int} (hk : In64 k) (n : Nat) :
    Calls Try.prog 13 #[.pointer (some ⟨l, 0, none⟩), .int .i64 k, .int .u64 (n : Int)] w fun e w' => e = .returned (.int .i64 (cmE f k n)) ∧ LPost w w' l fp (cmF f k n) (o ++ cmO f k n) W := by
  have h0 := h
  obtain ⟨mm, ov, fq, O, Ms, h, ho, hf⟩ := h
  unfold cmE cmF cmO
  by_cases hn : n ≤ (f k).last
  · rw [if_pos hn, if_pos hn, if_pos hn, List.append_nil]
    refine (Commit_early h hW hk hn).mono ?_
    rintro e w' ⟨rfl, hb⟩
    exact ⟨rfl, LPost.same h0 hb⟩
  · rw [if_neg hn, if_neg hn, if_neg hn]
    cases hh : hasN (f k) n with
    | false =>
      refine (Commit_none h hW hk (by omega) hh).mono ?_
      rintro e w' ⟨rfl, hb⟩
      refine ⟨rfl, ?_⟩
      simpa using LPost.same h0 hb
    | true =>
      refine (Commit_yes h hW hk (by omega) hh).mono ?_
      rintro e w' ⟨rfl, O', hs, hO⟩
      refine ⟨rfl, ?_⟩
      simp only [if_true]
      exact hs.la (by rw [hO, ho]) hf
theorem Abort_LA {w : World} {l : Nat} {fp : Nat → Prop} {f : Int → PS} {o : List (List Rc)} {W : Nat} (h : LA w l fp f o W) (hW : W ≤ 500000) {k : Int} (hk : In64 k) (n : Nat) :
    Calls Try.prog 15 #[.pointer (some ⟨l, 0, none⟩), .int .i64 k, .int .u64 (n : Int)] w fun e w' => e = .returned (.tuple #[]) ∧ LPost w w' l fp (abF f k n) o W := by
  obtain ⟨mm, ov, fq, O, Ms, h, ho, hf⟩ := h
  refine (Abort_any h hW hk n).mono ?_
  rintro e w' ⟨rfl, hs⟩
  exact ⟨rfl, hs.la ho hf⟩
theorem All_LA {w : World} {l : Nat} {fp : Nat → Prop} {f : Int → PS} {o : List (List Rc)} {W : Nat} (h : LA w l fp f o W) (hW : W ≤ 500000) :
    Calls Try.prog 18 #[.pointer (some ⟨l, 0, none⟩)] w fun e w' => ∃ u, e = .returned u ∧ OwnL 39 3 Rc.cs w.heap.size w' u o.flatten ∧ Below w.heap.size w w' := by
  obtain ⟨mm, ov, fq, O, Ms, h, rfl, hf⟩ := h
  exact All_any h hW
theorem LA.flat {w : World} {l : Nat} {fp : Nat → Prop} {f : Int → PS} {o : List (List Rc)} {W : Nat} (h : LA w l fp f o W) : o.flatten.length ≤ W := by
  obtain ⟨mm, ov, fq, O, Ms, h, rfl, hf⟩ := h
  have h1 := h.p.wt
  have h2 := sumw_flat O
  omega
theorem Last_LA {w : World} {l : Nat} {fp : Nat → Prop} {f : Int → PS} {o : List (List Rc)} {W : Nat} (h : LA w l fp f o W) {k : Int} (hk : In64 k) :
    Calls Try.prog 19 #[.pointer (some ⟨l, 0, none⟩), .int .i64 k] w fun e w' => e = .returned (.int .u64 ((f k).last : Int)) ∧ w = w' := by
  obtain ⟨mm, ov, fq, O, Ms, h, rfl, hf⟩ := h
  exact Last_any h hk
theorem Staged_LA {w : World} {l : Nat} {fp : Nat → Prop} {f : Int → PS} {o : List (List Rc)} {W : Nat} (h : LA w l fp f o W) (hW : W ≤ 500000) {k : Int} (hk : In64 k) :
    Calls Try.prog 22 #[.pointer (some ⟨l, 0, none⟩), .int .i64 k] w fun e w' => ∃ u, e = .returned u ∧ OwnL 32 1 u64cs w.heap.size w' u ((f k).stg.map Prod.fst) ∧ Below w.heap.size w w' := by
  obtain ⟨mm, ov, fq, O, Ms, h, rfl, hf⟩ := h
  exact Staged_any h hW hk
theorem Upto_LA {w : World} {l : Nat} {fp : Nat → Prop} {f : Int → PS} {o : List (List Rc)} {W : Nat} (h : LA w l fp f o W) (hW : W ≤ 500000) {k : Int} (hk : In64 k) (n : Nat) :
    Calls Try.prog 24 #[.pointer (some ⟨l, 0, none⟩), .int .i64 k, .int .u64 (n : Int)] w fun e w' => ∃ u, e = .returned u ∧ OwnL 39 3 Rc.cs w.heap.size w' u (uptoS (f k) n) ∧ Below w.heap.size w w' := by
  obtain ⟨mm, ov, fq, O, Ms, h, rfl, hf⟩ := h
  exact Upto_any h hW hk n
/-- How many are staged, and how many records Upto tells, at most. -/
theorem LA.part {w : World} {l : Nat} {fp : Nat → Prop} {f : Int → PS} {o : List (List Rc)} {W : Nat} (h : LA w l fp f o W) (k : Int) (n : Nat) : (f k).stg.length ≤ W ∧ (uptoS (f k) n).length ≤ W := by
  obtain ⟨mm, ov, fq, O, Ms, h, rfl, hf⟩ := h
  by_cases hin : ∃ p ∈ Ms, p.k = k
  · obtain ⟨p, hp, rfl⟩ := hin
    have hk := (h.p.pp p hp).key
    obtain ⟨q, R, P⟩ := h.pick hk
    have h1 := P.pl.wt
    rw [sumS_cons] at h1
    have h2 := P.pl.cw q (List.mem_cons_self ..)
    rw [P.ps, upto_eq]
    have h3 := sumw_len q.stg
    have h4 := sumw_flat (q.com.filter (fun x => decide (x.n ≤ n)) ++ q.stg.filter (fun x => decide (x.n ≤ n)))
    rw [sumw_append] at h4
    have h5 := sumw_filter (fun x => decide (x.n ≤ n)) q.com
    have h6 := sumw_filter (fun x => decide (x.n ≤ n)) q.stg
    refine ⟨?_, by omega⟩
    show (q.stg.map Tx.pr).length ≤ W
    rw [List.length_map]; omega
  · have e : f k = emp := h.s.2 k (fun p hp e => hin ⟨p, hp, e⟩)
    rw [e]
    exact ⟨Nat.zero_le _, Nat.zero_le _⟩

end Go.Proofs.Yteafnohponbbeaa
