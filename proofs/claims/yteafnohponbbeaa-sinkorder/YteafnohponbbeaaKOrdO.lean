/-
  SinkOrder: its parts, plainly.
-/
import Derived.Test.YteafnohponbbeaaKOrdS
namespace Go.Proofs.Yteafnohponbbeaa
open Go.RowKit

/-- What SinkOrder keeps by parts: the records S, of which C are committed, as the boxes and the rows have them. -/
structure Od (i : Nat) (S : Int → List Rc) (C : Int → Nat) (va vb : Array Value) (R : List Rw) : Prop where
  len : R.length = 4
  sa : va.size = 3
  sb : vb.size = 3
  pt : ∀ p : Nat, p < 3 → ∃ v, va[p]? = some v ∧ R[p]? = some (v, S (p : Int))
  bx : ∀ p : Nat, p < 3 → vb[p]? = some (.int .i64 (C (p : Int) : Int))
  le : ∀ p : Nat, p < 3 → C (p : Int) ≤ (S (p : Int)).length ∧ (S (p : Int)).length ≤ i
theorem Od.start : Od 0 (fun _ => []) (fun _ => 0) #[.slice none 0 0, .slice none 0 0, .slice none 0 0] #[.int .i64 0, .int .i64 0, .int .i64 0] (rws (.slice none 0 0) (.slice none 0 0) (.slice none 0 0) (.slice none 0 0) (fun _ => []) []) where
  len := rfl
  sa := rfl
  sb := rfl
  pt := fun p hp => by
    match p, hp with
    | 0, _ => exact ⟨_, rfl, rfl⟩
    | 1, _ => exact ⟨_, rfl, rfl⟩
    | 2, _ => exact ⟨_, rfl, rfl⟩
  bx := fun p hp => by
    match p, hp with
    | 0, _ => rfl
    | 1, _ => rfl
    | 2, _ => rfl
  le := fun _ _ => ⟨Nat.le_refl _, Nat.le_refl _⟩
theorem updR_self (S : Int → List Rc) (p : Int) (l : List Rc) : updR S p l p = l := by unfold updR; rw [if_pos rfl]
theorem updN_self (C : Int → Nat) (p : Int) (n : Nat) : updN C p n p = n := by unfold updN; rw [if_pos rfl]
theorem updN_twice (C : Int → Nat) (p : Int) (n m : Nat) : updN (updN C p n) p m = updN C p m := by
  funext i
  unfold updN
  by_cases h : i = p
  · rw [if_pos h, if_pos h]
  · rw [if_neg h, if_neg h, if_neg h]
theorem updN_same (C : Int → Nat) (p : Int) : updN C p (C p) = C := by
  funext i
  unfold updN
  by_cases h : i = p
  · rw [if_pos h, h]
  · rw [if_neg h]
section
variable {i : Nat} {S : Int → List Rc} {C : Int → Nat} {va vb : Array Value} {R : List Rw}
theorem Od.more (h : Od i S C va vb R) {j : Nat} (hj : i ≤ j) : Od j S C va vb R := { h with le := fun p hp => ⟨(h.le p hp).1, Nat.le_trans (h.le p hp).2 hj⟩ }
theorem Od.want (h : Od i S C va vb R) (x : Rw) : Od i S C va vb (R.set 3 x) := { h with
  len := by rw [List.length_set]; exact h.len
  pt := fun p hp => by
    rw [List.getElem?_set_ne (by omega)]
    exact h.pt p hp }
theorem Od.grow (h : Od i S C va vb R) {p : Nat} (hp : p < 3) (v : Value) (r : Rc) : Od (i + 1) (updR S (p : Int) (S (p : Int) ++ [r])) C (va.setIfInBounds p v) vb (R.set p (v, S (p : Int) ++ [r])) where
  len := by rw [List.length_set]; exact h.len
  sa := by rw [Array.size_setIfInBounds]; exact h.sa
  sb := h.sb
  pt := fun q hq => by
    by_cases e : q = p
    · subst e
      refine ⟨v, ?_, ?_⟩
      · rw [Array.getElem?_setIfInBounds, if_pos rfl, if_pos (by rw [h.sa]; exact hq)]
      · rw [List.getElem?_set_self (by rw [h.len]; omega), updR_self]
    · obtain ⟨u, h1, h2⟩ := h.pt q hq
      refine ⟨u, ?_, ?_⟩
      · rw [Array.getElem?_setIfInBounds, if_neg (fun e2 => e e2.symm)]; exact h1
      · rw [List.getElem?_set_ne (fun e2 => e e2.symm)]
        unfold updR
        rw [if_neg (by omega)]; exact h2
  bx := h.bx
  le := fun q hq => by
    have := h.le q hq
    unfold updR
    by_cases e : q = p
    · subst e
      rw [if_pos rfl, List.length_append]
      have h2 : [r].length = 1 := rfl
      omega
    · rw [if_neg (by omega)]; omega
theorem Od.count (h : Od i S C va vb R) {q n : Nat} (hq : q < 3) (hn : n ≤ (S (q : Int)).length) : Od i S (updN C (q : Int) n) va (vb.setIfInBounds q (.int .i64 (n : Int))) R := { h with
  sb := by rw [Array.size_setIfInBounds]; exact h.sb
  bx := fun p hp => by
    unfold updN
    rw [Array.getElem?_setIfInBounds]
    by_cases e : p = q
    · subst e
      rw [if_pos rfl, if_pos (by rw [h.sb]; exact hp), if_pos rfl]
    · rw [if_neg (fun e2 => e e2.symm), if_neg (by omega)]; exact h.bx p hp
  le := fun p hp => by
    have := h.le p hp
    unfold updN
    by_cases e : p = q
    · subst e; rw [if_pos rfl]; omega
    · rw [if_neg (by omega)]; exact this }
end
/-- Two records side by side in a block of their own. -/
theorem seg_rr {w : World} {n B : Nat} (r : Rc) (hb : BoxT 39 w n #[.int .i64 r.k, .int .i64 r.t, .int .i64 r.v, .int .i64 r.k, .int .i64 r.t, .int .i64 r.v]) (hB : n < B) (c : Nat) : LSeg 3 Rc.cs B w (.slice (some ⟨n, 0, none⟩) 2 c) [r, r] := by
  refine ⟨_, _, rfl, by simp, .inr ⟨n, 0, rfl, hB, fun i y hi j u hu => ?_⟩⟩
  have hy : y = r := by
    have := List.mem_of_getElem? hi
    simpa using this
  subst hy
  have hi2 := lt_of_get hi
  have hj2 := lt_of_get hu
  have h2 : [y, y].length = 2 := rfl
  have h3 : (Rc.cs y).length = 3 := rfl
  rw [hb.cellAt]
  rw [h2] at hi2
  rw [h3] at hj2
  match i, j, hi2, hj2 with
  | 0, 0, _, _ => exact hu
  | 0, 1, _, _ => exact hu
  | 0, 2, _, _ => exact hu
  | 1, 0, _, _ => exact hu
  | 1, 1, _, _ => exact hu
  | 1, 2, _, _ => exact hu
section
variable {w wr w' : World} {la A B : Nat} {f : Int → PS} {o : List (List Rc)} {W : Nat} {va vb : Array Value} {R : List Rw}
/-- One more row, made but now. -/
theorem GO.fresh (h : GO w wr la f o W A va B vb R) {v : Value} {l : List Rc} (hb : Below wr.heap.size wr w') (ho : OwnL 39 3 Rc.cs wr.heap.size w' v l) : GO w w' la f o W A va B vb (R ++ [(v, l)]) := by
  have h2 := h.below hb
  obtain ⟨fa, h⟩ := h
  have hk : ∀ (j : Nat) (x : Rw), (R ++ [(v, l)])[j]? = some x → R[j]? = some x ∨ (j = R.length ∧ x = (v, l)) := fun j x hx => by
    by_cases hj : j < R.length
    · rw [List.getElem?_append_left hj] at hx
      exact .inl hx
    · have hj2 := lt_of_get hx
      rw [List.length_append] at hj2
      have h3 : [(v, l)].length = 1 := rfl
      have hj3 : j = R.length := by omega
      subst hj3
      rw [List.getElem?_concat_length] at hx
      cases hx; exact .inr ⟨rfl, rfl⟩
  have hat : ∀ g, v.ownBlock = some g → wr.heap.size ≤ g := fun g e => ho.at g e
  refine ⟨fa, { log := h.log.below hb, at_ := h.at_, wd := h.wd.trans (hb.mono h.wd.size), ba := h.ba.below hb, la_ := h.la_, bb := h.bb.below hb, lb_ := h.lb_, row := fun j x hx => ?_, ap := fun j k x y hjk hx hy g e e2 => ?_ }⟩
  · rcases hk j x hx with hx | ⟨_, rfl⟩
    · exact ⟨(h.row j x hx).1.below hb, (h.row j x hx).2⟩
    · exact ⟨ho.mono h.wd.size, fun g e hf => by have := h.log.flt g hf; have := hat g e; omega⟩
  · rcases hk j x hx with hx | ⟨rfl, rfl⟩
    · rcases hk k y hy with hy | ⟨rfl, rfl⟩
      · exact h.ap j k x y hjk hx hy g e e2
      · have := (h.row j x hx).1.lt g e; have := hat g e2; omega
    · rcases hk k y hy with hy | ⟨rfl, rfl⟩
      · have := (h.row k y hy).1.lt g e2; have := hat g e; omega
      · exact hjk rfl
theorem GO.drop {x : Rw} (h : GO w wr la f o W A va B vb (R ++ [x])) : GO w wr la f o W A va B vb R := by
  obtain ⟨fa, h⟩ := h
  have hk : ∀ (j : Nat) (y : Rw), R[j]? = some y → (R ++ [x])[j]? = some y := fun j y hy => by
    rw [List.getElem?_append_left (lt_of_get hy)]; exact hy
  exact ⟨fa, { h with row := fun j y hy => h.row j y (hk j y hy), ap := fun j k y z hjk hy hz => h.ap j k y z hjk (hk j y hy) (hk k z hz) }⟩
theorem GO.leftAt {x : Rw} (h : R[3]? = some x) (y : Rw) : (R ++ [y])[3]? = some x := by
  rw [List.getElem?_append_left (lt_of_get h)]; exact h
/-- A record in a box of its own, as a row. -/
theorem own_box {base k : Nat} (r : Rc) (hb : BoxT 39 wr k #[.int .i64 r.k, .int .i64 r.t, .int .i64 r.v]) (hk : base ≤ k) : OwnL 39 3 Rc.cs base wr (.slice (some ⟨k, 0, none⟩) 1 1) [r] :=
  ⟨rfl, .inr ⟨k, 1, _, rfl, hk, hb, Nat.le_refl _, by decide, rfl, rfl⟩⟩
theorem box_own {base k : Nat} {r : Rc} (h : OwnL 39 3 Rc.cs base wr (.slice (some ⟨k, 0, none⟩) 1 1) [r]) : wr.cell? ⟨k, 0, none⟩ = some (.int .i64 r.k) ∧ wr.cell? ⟨k, 1, none⟩ = some (.int .i64 r.t) ∧ wr.cell? ⟨k, 2, none⟩ = some (.int .i64 r.v) := by
  obtain ⟨b, o, e, _, h0, h1, h2⟩ := (h.seg Rc.cs_len (show [r].length ≤ _ from by show 1 ≤ _; omega)).rec (i := 0) (x := r) rfl
  cases e
  exact ⟨h0, h1, h2⟩
/-- A thing of a row, where it lies. -/
theorem own_rec {base n c : Nat} {ta : Option Addr} {l : List Rc} (h : OwnL 39 3 Rc.cs base wr (.slice ta n c) l) (hl : l.length ≤ 140737488355328) {j : Nat} {x : Rc} (hx : l[j]? = some x) : ∃ g, ta = some ⟨g, 0, none⟩ ∧ wr.cell? ⟨g, j * 3, none⟩ = some (.int .i64 x.k) ∧ wr.cell? ⟨g, j * 3 + 1, none⟩ = some (.int .i64 x.t) ∧ wr.cell? ⟨g, j * 3 + 2, none⟩ = some (.int .i64 x.v) := by
  obtain ⟨b, o, e, _, h0, h1, h2⟩ := (h.seg Rc.cs_len hl).rec hx
  rcases h.2 with ⟨e4, _⟩ | ⟨g, c4, cur, e4, _⟩
  · injection e4 with e6
    rw [e6] at e; cases e
  · injection e4 with e6
    rw [e6] at e; cases e
    rw [Nat.zero_add] at h0 h1 h2
    exact ⟨_, e6, h0, h1, h2⟩
end
theorem dbl_take {L : List Rc} {x : Rc} {c j : Nat} (h : c ≤ j) (hx : L[j]? = some x) : dbl ((L.drop c).take (j + 1 - c)) = dbl ((L.drop c).take (j - c)) ++ [x, x] := by
  rw [show j + 1 - c = (j - c) + 1 from by omega, List.take_add_one, List.getElem?_drop, show c + (j - c) = j from by omega, hx, dbl_app]
  rfl
theorem wrap64s {n : Nat} (h : n < 9223372036854775808) : IntKind.i64.wrap (n : Int) = (n : Int) := by
  unfold IntKind.wrap
  have e1 : ((2 : Int) ^ IntKind.i64.bits) = 18446744073709551616 := rfl
  have e2 : ((2 : Int) ^ (IntKind.i64.bits - 1)) = 9223372036854775808 := rfl
  simp only [e1, e2]
  rw [Int.emod_eq_of_lt (by omega) (by omega), if_neg (by simp; omega)]
theorem wrap64u {n : Nat} (h : n < 9223372036854775808) : IntKind.u64.wrap (n : Int) = (n : Int) := by
  unfold IntKind.wrap
  have e1 : ((2 : Int) ^ IntKind.u64.bits) = 18446744073709551616 := rfl
  simp only [e1]
  rw [Int.emod_eq_of_lt (by omega) (by omega), if_neg (by simp [IntKind.signed])]
theorem wrap2 {s1 : Nat} (h : s1 ≤ 1000) : IntKind.u64.wrap (IntKind.i64.wrap (s1 : Int)) = (s1 : Int) := by
  rw [wrap64s (by omega), wrap64u (by omega)]

end Go.Proofs.Yteafnohponbbeaa
