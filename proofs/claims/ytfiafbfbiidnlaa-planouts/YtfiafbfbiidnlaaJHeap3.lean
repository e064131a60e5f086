/-
  container/heap's Push and Pop.
-/
import Derived.Test.YtfiafbfbiidnlaaJHeap2
namespace Go.Proofs.Ytfiafbfbiidnlaa
open Go.RowKit

def pushP (l : List Nat) (x : Nat) : List Nat := upP (l.length + 1) (l ++ [x]) l.length
def popL (l : List Nat) : List Nat := dnP (l.length - 1 + 1) (swp l 0 (l.length - 1)) 0 (l.length - 1)
theorem upP_len (f : Nat) : ∀ (l : List Nat) (j : Nat), (upP f l j).length = l.length := by
  induction f with
  | zero => intro l j; rfl
  | succ f ih =>
    intro l j
    rw [upP]
    split
    · rfl
    · rw [ih, swp_len]
theorem dnP_len (f : Nat) : ∀ (l : List Nat) (i n : Nat), (dnP f l i n).length = l.length := by
  induction f with
  | zero => intro l i n; rfl
  | succ f ih =>
    intro l i n
    rw [dnP]
    generalize (if 2 * i + 2 < n ∧ l.getD (2 * i + 2) 0 < l.getD (2 * i + 1) 0 then 2 * i + 2 else 2 * i + 1) = k
    split
    · rfl
    · split
      · rfl
      · rw [ih, swp_len]
theorem popL_len (l : List Nat) : (popL l).length = l.length := by rw [popL, dnP_len, swp_len]

set_option maxRecDepth 100000 in
theorem len_any (ao : Option Addr) (n c : Nat) (w : World) : Calls Try.prog 95 #[.slice ao n c] w fun e w' => e = .returned (.int .i64 (n : Int)) ∧ w' = w := by
  go_enter Try.func95, Try.ntmps95
  go_wp2
  go_ret
  exact ⟨rfl, rfl⟩
set_option maxHeartbeats 1000000 in
set_option maxRecDepth 100000 in
theorem push_any {base : Nat} {w : World} {K : Nat} {c0 c1 c2 c3 rv : Value} {l : List Nat} (h : Hp base w K c0 c1 c2 c3 rv l) (x : Nat) (hl : l.length ≤ 500) (hb : base ≤ w.heap.size) :
    Calls Try.prog 74 #[.iface 99 (.pointer (some ⟨K, 4, none⟩)), .iface 3 (.int .i64 (x : Int))] w fun e w' => e = .returned (.tuple #[]) ∧ ∃ rv', Hp base w' K c0 c1 c2 c3 rv' (pushP l x) ∧ HT K rv rv' w w' := by
  have HP := hide (mpush_any h x (by omega) hb)
  have mp := meth_push w K
  clear h
  go_enter Try.func74, Try.ntmps74
  go_wp2_with (first
    | (go_at_call 99; refine HP.out.mono ?_; rintro e w1 ⟨rfl, rv1, h1, t1⟩; obtain ⟨ao, ac, rfl⟩ := h1.own.shape; have k4 := h1.box.cells5.2.2.2.2; have mn := meth_len w1 K _ k4; have hll : (l ++ [x]).length = l.length + 1 := (by simp); have HU := hide (up_any h1 (j := l.length) (by omega) (by omega)); have HT1 := hide t1; have HL := hide hll; rw [hll] at mn k4; clear t1 h1 hll)
    | (go_at_call 77; refine HU.out.mono ?_; rintro e w2 ⟨rfl, h2, t2⟩)
    | (go_at_call 95; refine (len_any _ _ _ _).mono ?_; rintro e w9 ⟨rfl, rfl⟩))
  go_end0
  exact ⟨rfl, _, h2, HT1.out.trans t2⟩

set_option maxHeartbeats 1000000 in
set_option maxRecDepth 100000 in
theorem pop_any {base : Nat} {w : World} {K : Nat} {c0 c1 c2 c3 rv : Value} {l : List Nat} (h : Hp base w K c0 c1 c2 c3 rv l) (hn : l ≠ []) (hl : l.length ≤ 500) :
    Calls Try.prog 70 #[.iface 99 (.pointer (some ⟨K, 4, none⟩))] w fun e w' => ∃ (x : Nat) (r : List Nat), popL l = r ++ [x] ∧ e = .returned (.iface 3 (.int .i64 (x : Int))) ∧ ∃ rv', Hp base w' K c0 c1 c2 c3 rv' r ∧ HT K rv rv' w w' := by
  obtain ⟨ao, ac, rfl⟩ := h.own.shape
  have k4 := h.box.cells5.2.2.2.2
  have mn := meth_len w K _ k4
  have ms := meth_swap w K _ k4
  have hpos : 0 < l.length := List.length_pos_iff.2 hn
  obtain ⟨n, hln⟩ : ∃ n, l.length = n + 1 := ⟨l.length - 1, by omega⟩
  obtain ⟨x, r, hpl⟩ : ∃ (x : Nat) (r : List Nat), popL l = r ++ [x] := by
    have hp : popL l ≠ [] := by intro e; have := popL_len l; rw [e, hln] at this; simp at this
    exact ⟨(popL l).getLast hp, (popL l).dropLast, (List.dropLast_concat_getLast hp).symm⟩
  have hrl : r.length ≤ 1000 := by
    have := popL_len l
    rw [hpl, List.length_append] at this; simp at this; omega
  have hdn : dnP (n + 1) (swp l 0 n) 0 n = r ++ [x] := by
    rw [← hpl, popL, hln]; rfl
  have HS := hide (swap_any h.own (i := 0) (j := n) (by omega) (by omega))
  have HH := hide h
  have HD := hide hdn
  have HPL := hide hpl
  have HLN := hide hln
  clear h
  have hn5 : n + 1 ≤ 500 := by omega
  rw [hln] at mn ms k4 HS ⊢
  clear hdn hpl hn hpos hln
  go_enter Try.func70, Try.ntmps70
  go_wp2_with (first
    | (go_at_call 95; refine (len_any _ _ _ _).mono ?_; rintro e w9 ⟨rfl, rfl⟩)
    | (go_at_call 97; refine HS.out.mono ?_; rintro e w1 ⟨rfl, o1, g1⟩; rw [← HLN.out] at o1 g1; have H1 := hide (HH.out.swapped o1 g1); have HDN := hide (down_any H1.out (n := n) (by rw [swp_len, HLN.out]; omega) (by rw [swp_len]; omega)); have T1 := hide (HT.grown (K := K) g1 (fun _ e => .inl e)); clear o1 g1)
    | (go_at_call 75; refine HDN.out.mono ?_; rintro e w2 ⟨⟨bb, rfl⟩, h2, t2⟩; rw [HD.out] at h2; have mp := meth_pop w2 K; have HPO := hide (mpop_any h2 hrl); have T2 := hide t2; clear h2 t2)
    | (go_at_call 98; refine HPO.out.mono ?_; rintro e w3 ⟨rfl, rv3, h3, t3⟩))
  go_ret
  exact ⟨x, r, HPL.out, rfl, rv3, h3, by rw [← HLN.out]; exact (T1.out.trans T2.out).trans t3⟩
end Go.Proofs.Ytfiafbfbiidnlaa
