/-
  Replays, plainly.
-/
import Derived.Test.YteafnohponbbeaaKLaw
namespace Go.Proofs.Yteafnohponbbeaa
open Go.RowKit

/-- The j-th transaction of a replay, by the values that its records have. -/
def tx (v : Nat → Int) (j : Nat) : Nat × List Rc := (j, [⟨(j : Int), 0, v j⟩])
/-- Those from c + 1 to a. -/
def sq (v : Nat → Int) (c a : Nat) : List (Nat × List Rc) := (List.range' (c + 1) (a - c)).map (tx v)
theorem sq_nil (v : Nat → Int) (c : Nat) : sq v c c = [] := by unfold sq; rw [Nat.sub_self]; rfl
theorem sq_snoc (v : Nat → Int) {c a : Nat} (h : c ≤ a) : sq v c (a + 1) = sq v c a ++ [tx v (a + 1)] := by
  unfold sq
  rw [show a + 1 - c = (a - c) + 1 by omega, List.range'_concat, List.map_append]
  simp only [List.map_cons, List.map_nil, Nat.one_mul]
  rw [show c + 1 + (a - c) = a + 1 by omega]
theorem sq_app (v : Nat → Int) {c b a : Nat} (h1 : c ≤ b) (h2 : b ≤ a) : sq v c b ++ sq v b a = sq v c a := by
  unfold sq
  rw [← List.map_append]
  congr 1
  have := List.range'_append (s := c + 1) (m := b - c) (n := a - b) (step := 1)
  rw [Nat.one_mul, show c + 1 + (b - c) = b + 1 by omega, show b - c + (a - b) = a - c by omega] at this
  exact this
theorem sq_mem {v : Nat → Int} {c a : Nat} {x : Nat × List Rc} (h : x ∈ sq v c a) : c < x.1 ∧ x.1 ≤ a ∧ x.2 ≠ [] := by
  unfold sq at h
  obtain ⟨j, hj, rfl⟩ := List.mem_map.1 h
  rw [List.mem_range'_1] at hj
  refine ⟨?_, ?_, by simp [tx]⟩ <;> show _ <;> (unfold tx; simp only; omega)
theorem sq_same {v u : Nat → Int} {c a : Nat} (h : ∀ j, c < j → j ≤ a → v j = u j) : sq v c a = sq u c a := by
  unfold sq
  refine List.map_congr_left (fun j hj => ?_)
  rw [List.mem_range'_1] at hj
  unfold tx
  rw [h j (by omega) (by omega)]
theorem sq_le (v : Nat → Int) {c b a : Nat} (h1 : c ≤ b) (h2 : b ≤ a) : (sq v c a).filter (fun x => decide (x.1 ≤ b)) = sq v c b := by
  rw [← sq_app v h1 h2, List.filter_append, List.filter_eq_self.2 (fun x hx => by have := sq_mem hx; simp; omega), List.filter_eq_nil_iff.2 (fun x hx => by have := sq_mem hx; simp; omega), List.append_nil]
theorem sq_gt (v : Nat → Int) {c b a : Nat} (h1 : c ≤ b) (h2 : b ≤ a) : (sq v c a).filter (fun x => decide (b < x.1)) = sq v b a := by
  rw [← sq_app v h1 h2, List.filter_append, List.filter_eq_nil_iff.2 (fun x hx => by have := sq_mem hx; simp; omega), List.filter_eq_self.2 (fun x hx => by have := sq_mem hx; simp; omega), List.nil_append]
theorem sq_kept (v : Nat → Int) (c a : Nat) : keptP (sq v c a) = sq v c a := by
  unfold keptP
  refine List.filter_eq_self.2 (fun x hx => ?_)
  have := (sq_mem hx).2.2
  simpa using this
theorem sq_last (v : Nat → Int) {c a : Nat} (h : c < a) : (sq v c a).getLast? = some (tx v a) := by
  obtain ⟨b, rfl⟩ : ∃ b, a = b + 1 := ⟨a - 1, by omega⟩
  rw [sq_snoc v (by omega)]
  simp
/-- A part in the midst of a replay. -/
def rpS (v : Nat → Int) (c a : Nat) : PS := ⟨sq v 0 c, sq v c a, c⟩
def rpO (v : Nat → Int) (c : Nat) : List (List Rc) := (sq v 0 c).map Prod.snd
theorem rp_gr (v : Nat → Int) {c a : Nat} (h : c ≤ a) : grS (rpS v c a) = a := by
  unfold grS rpS
  simp only
  by_cases h1 : c = a
  · subst h1; rw [sq_nil]; rfl
  · rw [sq_last v (by omega)]; rfl
theorem rp_stage {f : Int → PS} {k : Int} {v u : Nat → Int} {c a : Nat} (h : c ≤ a) (hf : f k = rpS v c a) (hu : ∀ j, j ≤ a → u j = v j) : stE f k (a + 1) = 0 ∧ stF f k (a + 1) [⟨((a + 1 : Nat) : Int), 0, u (a + 1)⟩] k = rpS u c (a + 1) := by
  unfold stE stF
  rw [hf, rp_gr v h, if_neg (by omega), if_neg (by omega), upd_at]
  refine ⟨rfl, ?_⟩
  unfold stageS rpS
  simp only
  rw [sq_snoc u h, sq_same (v := u) (u := v) (c := c) (a := a) (fun j _ h2 => hu j h2), sq_same (v := u) (u := v) (c := 0) (a := c) (fun j _ h2 => hu j (by omega))]
  rfl
theorem rp_commit {f : Int → PS} {k : Int} {v : Nat → Int} {c a b : Nat} (h1 : c ≤ b) (h2 : b ≤ a) (hf : f k = rpS v c a) (o : List (List Rc)) (ho : o = rpO v c) : cmE f k b = 0 ∧ cmF f k b k = rpS v b a ∧ o ++ cmO f k b = rpO v b := by
  subst ho
  by_cases h3 : c = b
  · subst h3
    have hl : c ≤ (f k).last := by rw [hf]; exact Nat.le_refl _
    unfold cmE cmF cmO
    rw [if_pos hl, if_pos hl, if_pos hl, List.append_nil]
    exact ⟨rfl, hf, rfl⟩
  · have hl : ¬ b ≤ (f k).last := by rw [hf]; show ¬ b ≤ c; omega
    have hd : dueS (f k) b = sq v c b := by rw [hf]; exact sq_le v h1 h2
    have hh : hasN (f k) b = true := by
      have h4 : (f k).stg.filter (fun x => decide (x.1 ≤ b)) = sq v c b := hd
      unfold hasN
      rw [h4, sq_last v (by omega)]
      simp [tx]
    unfold cmE cmF cmO
    rw [if_neg hl, if_neg hl, if_neg hl, hh, if_pos rfl, if_pos rfl, if_pos rfl, upd_at]
    refine ⟨rfl, ?_, ?_⟩
    · unfold commitS
      rw [hd, sq_kept, hf]
      unfold rpS
      simp only
      rw [sq_app v (Nat.zero_le _) h1, sq_gt v h1 h2]
    · unfold outS rpO
      rw [hd, sq_kept, ← List.map_append, sq_app v (Nat.zero_le _) h1]
theorem rp_abort {f : Int → PS} {k : Int} {v : Nat → Int} {b a : Nat} (h : b ≤ a) (hf : f k = rpS v b a) : abF f k b k = rpS v b b := by
  unfold abF
  rw [upd_at, hf]
  unfold abortS rpS
  simp only
  rw [sq_le v (Nat.le_refl _) h]
theorem rp_flat (v : Nat → Int) (c : Nat) : (rpO v c).flatten = (List.range' 1 c).map fun (j : Nat) => (⟨(j : Int), 0, v j⟩ : Rc) := by
  unfold rpO sq
  rw [Nat.sub_zero, List.map_map]
  have : ∀ l : List Nat, ((l.map (Prod.snd ∘ tx v)).flatten) = l.map fun (j : Nat) => (⟨(j : Int), 0, v j⟩ : Rc) := fun l => by
    induction l with
    | nil => rfl
    | cons x l ih => rw [List.map_cons, List.flatten_cons, ih]; rfl
  exact this _
theorem rp_len (v : Nat → Int) (c : Nat) : (rpO v c).flatten.length = c := by rw [rp_flat]; simp
theorem rp_at (v : Nat → Int) {c i : Nat} (h : i < c) : (rpO v c).flatten[i]? = some ⟨((i + 1 : Nat) : Int), 0, v (i + 1)⟩ := by
  rw [rp_flat, List.getElem?_map, List.getElem?_range' h]
  simp only [Option.map_some, Nat.one_mul]
  rw [show 1 + i = i + 1 by omega]
/-- A log of a law's own beside a row of its own. -/
def G1 (w wr : World) (l : Nat) (f : Int → PS) (o : List (List Rc)) (W M : Nat) (cs : Array Value) : Prop :=
  ∃ fp, LA wr l fp f o W ∧ (∀ i, fp i → w.heap.size ≤ i) ∧ Below w.heap.size w wr ∧ BoxT 2 wr M cs ∧ ¬ fp M ∧ w.heap.size ≤ M
section
variable {w wr w' : World} {l M W W' : Nat} {f f' : Int → PS} {o o' : List (List Rc)} {cs : Array Value}
theorem G1.world (h : G1 w wr l f o W M cs) : Below w.heap.size w wr := by
  obtain ⟨fp, a, b, c, d, e, e2⟩ := h
  exact c
theorem G1.box (h : G1 w wr l f o W M cs) : BoxT 2 wr M cs := by
  obtain ⟨fp, a, b, c, d, e, e2⟩ := h
  exact d
theorem G1.below (h : G1 w wr l f o W M cs) (hb : Below wr.heap.size wr w') : G1 w w' l f o W M cs := by
  obtain ⟨fp, a, b, c, d, e, e2⟩ := h
  exact ⟨fp, a.below hb, b, c.trans (hb.mono c.size), d.below hb, e, e2⟩
theorem G1.set (h : G1 w wr l f o W M cs) (j : Nat) (u : Value) : G1 w (wr.setCell ⟨M, j, none⟩ u) l f o W M (cs.setIfInBounds j u) := by
  obtain ⟨fp, a, b, c, d, e, e2⟩ := h
  have hs : (wr.setCell ⟨M, j, none⟩ u).heap.size = wr.heap.size := by simp
  have hb : ∀ i, i ≠ M → (wr.setCell ⟨M, j, none⟩ u).heap[i]? = wr.heap[i]? := fun i hi => Below.heap_setCell wr ⟨M, j, none⟩ u i hi
  exact ⟨fp, a.back (fun i hi => hb i (fun e3 => e (e3 ▸ hi))) (by omega), b, ⟨c.os, c.tape, c.output, by rw [hs]; exact c.size, fun i hi => (hb i (by omega)).trans (c.block i hi)⟩, d.set j u, e, e2⟩
theorem G1.post {fp : Nat → Prop} (hn : ∀ i, fp i → w.heap.size ≤ i) (hb : Below w.heap.size w wr) (hd : BoxT 2 wr M cs) (he : ¬ fp M) (he2 : w.heap.size ≤ M) (h : LPost wr w' l fp f' o' W') : G1 w w' l f' o' W' M cs := by
  obtain ⟨fp', h1, h2⟩ := h
  refine ⟨fp', h1, fun i hi => ?_, hb.trans (h2.below hb.size hn), hd.back (h2.block M hd.lt he), fun e => ?_, he2⟩
  · rcases h2.sub i hi with e | e
    · exact hn i e
    · have := hb.size; omega
  · rcases h2.sub M e with e | e
    · exact he e
    · have := hd.lt; omega
theorem G1.stage (h : G1 w wr l f o W M cs) (hW : W ≤ 500000) {k : Int} (hk : In64 k) (n : Nat) {rv : Value} {rs : List Rc} (hr : LSeg 3 Rc.cs wr.heap.size wr rv rs) (hrl : rs.length ≤ 500000) :
    Calls Try.prog 11 #[.pointer (some ⟨l, 0, none⟩), .int .i64 k, .int .u64 (n : Int), rv] wr fun e w' => e = .returned (.int .i64 (stE f k n)) ∧ G1 w w' l (stF f k n rs) o (W + rs.length + 1) M cs := by
  obtain ⟨fp, a, b, c, d, e, e2⟩ := h
  refine (Stage_LA a hW hk n hr (Nat.le_refl _) hrl).mono ?_
  rintro e' w' ⟨rfl, hp⟩
  exact ⟨rfl, G1.post b c d e e2 hp⟩
theorem G1.commit (h : G1 w wr l f o W M cs) (hW : W ≤ 500000) {k : Int} (hk : In64 k) (n : Nat) :
    Calls Try.prog 13 #[.pointer (some ⟨l, 0, none⟩), .int .i64 k, .int .u64 (n : Int)] wr fun e w' => e = .returned (.int .i64 (cmE f k n)) ∧ G1 w w' l (cmF f k n) (o ++ cmO f k n) W M cs := by
  obtain ⟨fp, a, b, c, d, e, e2⟩ := h
  refine (Commit_LA a hW hk n).mono ?_
  rintro e' w' ⟨rfl, hp⟩
  exact ⟨rfl, G1.post b c d e e2 hp⟩
theorem G1.abort (h : G1 w wr l f o W M cs) (hW : W ≤ 500000) {k : Int} (hk : In64 k) (n : Nat) :
    Calls Try.prog 15 #[.pointer (some ⟨l, 0, none⟩), .int .i64 k, .int .u64 (n : Int)] wr fun e w' => e = .returned (.tuple #[]) ∧ G1 w w' l (abF f k n) o W M cs := by
  obtain ⟨fp, a, b, c, d, e, e2⟩ := h
  refine (Abort_LA a hW hk n).mono ?_
  rintro e' w' ⟨rfl, hp⟩
  exact ⟨rfl, G1.post b c d e e2 hp⟩
theorem G1.all (h : G1 w wr l f o W M cs) (hW : W ≤ 500000) : Calls Try.prog 18 #[.pointer (some ⟨l, 0, none⟩)] wr fun e w' => ∃ u, e = .returned u ∧ OwnL 39 3 Rc.cs wr.heap.size w' u o.flatten ∧ G1 w w' l f o W M cs := by
  have h0 := h
  obtain ⟨fp, a, b, c, d, e, e2⟩ := h
  refine (All_LA a hW).mono ?_
  rintro e' w' ⟨u, rfl, o1, b1⟩
  exact ⟨u, rfl, o1, h0.below b1⟩
end

end Go.Proofs.Yteafnohponbbeaa
