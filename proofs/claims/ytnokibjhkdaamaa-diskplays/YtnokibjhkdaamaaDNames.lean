/-
  Walks over package disk: strings.Clone, names, List.
-/
import Derived.Test.YtnokibjhkdaamaaDPure
namespace Go.Proofs
open Go.RowKit Go.Maps Go.Sort Go.Shelf
theorem Try.sorts54 (m : Nat) : AnyZ.SortsIn Try.prog Try.sorted54_ren Fence.wide m :=
  ⟨fun blk off cap ss W hH hblk hsz => callsIn_wide.2 (AnyM.slices_Sort_string Try.sort58 blk off cap ss W hH hblk hsz),
   fun p cap W => callsIn_wide.2 (AnyM.slices_Sort_string_none Try.sort58 p cap W)⟩
theorem Try.keys_made (mb : Option Nat) (W : World) : CallsIn Fence.wide 5 Try.prog 55 #[.map mb] W fun e w' => e = .returned (.func (.func 59) #[] #[.pointer (some ⟨W.heap.size, 0, none⟩)]) ∧ w' = W.alloc (.cells #[.map mb] 62) :=
  AnyZ.keys_in Try.keys55 Fence.wide 5 trivial rfl mb W
set_option maxHeartbeats 1000000 in
theorem Try.keys_sorted {H : Type} (b nn : Nat) (D0 : DataW H) (R : Value → Option (DataW H × List MemPlace)) (w : World) (hown : w.ownsMap Try.prog 9 R b nn D0) (hmax : Maps.size D0 ≤ maxLen) (hbytes : Maps.size D0 * 16 ≤ 140737488355328) :
    CallsIn Fence.wide 5 Try.prog 54 #[.func (.func 59) #[] #[.pointer (some ⟨w.heap.size, 0, none⟩)]] (w.alloc (.cells #[.map (some b)] 62)) fun e w' => ∃ (v : Value) (ss : List (List UInt8)), e = .returned v ∧ ss.Perm (strKeys D0) ∧
      w'.ownsRow (w.alloc (.cells #[.map (some b)] 62)).heap.size 9 1 v ss.length ((ss.mergeSort (fun x y => decide (x ≤ y))).map encStr) ∧ Below (w.alloc (.cells #[.map (some b)] 62)).heap.size (w.alloc (.cells #[.map (some b)] 62)) w' := by
  have hbl := hown.lt
  have hseq : SeqGives Fence.wide 2 Try.prog 59 #[.pointer (some ⟨w.heap.size, 0, none⟩)] encStr (fun ss => ss.Perm (strKeys D0)) (Maps.size D0) (w.alloc (.cells #[.map (some b)] 62)) :=
    AnyZ.keys_gives (ρ := Try.keys55_ren) { Try.keys55 with } Fence.wide _ trivial rfl (by omega) w.heap.size b nn D0 _ (by simp) (by simp) (by
      obtain ⟨es, clock, hb, Ft, hs, hD⟩ := hown
      exact ⟨es, clock, (Below.heap_alloc _ _ b hbl).trans hb, Ft, hs, hD⟩)
  refine (AnyZ.sorted_in Try.sorted54 Fence.wide 5 trivial trivial trivial trivial rfl (by omega) (Try.sorts54 _) (enters_of Try.func58 (by kernel_rfl) rfl) 59 #[.pointer (some ⟨w.heap.size, 0, none⟩)] trivial (enters_of Try.func59 (by kernel_rfl) rfl) _ _ hmax hbytes _ hseq).mono ?_
  rintro e w' ⟨v, ss, h1, h2, h3, _, h4⟩
  exact ⟨v, ss, h1, h2, h3, h4⟩
end Go.Proofs
namespace Go.Proofs.Ytnokibjhkdaamaa
open Go.RowKit Go.Maps Go.Shelf

set_option maxHeartbeats 1000000 in
theorem clone_ok : CloneOk := by
  intro s w hs
  have hc : Calls Try.prog 60 #[.string s] w fun e w' => e = .returned (.string s) ∧ Below w.heap.size w w' := Any.stringslite_Clone Try.laysM316 s w hs
  go_enter Try.func56, Try.ntmps56
  go_wp2_with fail
  refine hc.mono ?_
  rintro e w' ⟨rfl, hb⟩
  go_wp2
  go_ret
  exact ⟨rfl, hb⟩

/-- A slice of names. -/
def NSeg (B : Nat) (w : World) (v : Value) (l : List (List UInt8)) : Prop := LSeg 1 (fun s : List UInt8 => [Value.string ⟨s.toArray⟩]) B w v l
theorem NSeg.of_row {base : Nat} {w : World} {v : Value} {ss : List (List UInt8)} (h : w.ownsRow base 9 1 v ss.length (ss.map fun l => Value.string ⟨l.toArray⟩)) (hl : ss.length ≤ 140737488355328) : NSeg w.heap.size w v ss := by
  rcases h.2 with ⟨rfl, h0⟩ | ⟨g, cap, cur, rfl, h2, h3, h4, h5, h6, h7⟩
  · have : ss = [] := List.length_eq_zero_iff.1 h0
    subst this
    exact ⟨none, 0, rfl, by simp, .inl rfl⟩
  · refine ⟨_, cap, rfl, hl, .inr ⟨g, 0, rfl, (Array.getElem?_eq_some_iff.1 h3).1, fun i x hx j u hu => ?_⟩⟩
    have hj : j = 0 := by
      cases j with
      | zero => rfl
      | succ j => simp at hu
    subst hj
    simp at hu
    subst hu
    have hi : i < ss.length := (List.getElem?_eq_some_iff.1 hx).1
    have := World.ownsRow.cellAt h i (by omega)
    simp only [Nat.zero_add, Nat.mul_one, Nat.add_zero]
    rw [this, List.getElem?_map, hx]
    rfl
/-- A slice whose array is not below base. -/
def NewSl (base : Nat) (v : Value) : Prop := ∀ a n c, v = .slice (some a) n c → base ≤ a.block
theorem NewSl.of_row {base e sz n : Nat} {w : World} {v : Value} {xs : List Value} (h : w.ownsRow base e sz v n xs) : NewSl base v := by
  rintro a m c rfl
  rcases h.2 with ⟨h1, _⟩ | ⟨g, cap, cur, h1, h2, _⟩
  · cases h1
  · cases h1; exact h2
theorem LSeg.turned {α : Type} {sz : Nat} {cs : α → List Value} {w w' : World} {v : Value} {xs : List α} {base k b : Nat} (h : LSeg sz cs w.heap.size w v xs) (hn : NewSl base v) (hk : k < base) (hb : b < base) (ht : Turned k b w w') : LSeg sz cs w'.heap.size w' v xs := by
  obtain ⟨ao, cap, h1, h2, h4⟩ := h
  refine ⟨ao, cap, h1, h2, ?_⟩
  rcases h4 with h4 | ⟨g, off, h5, h6, h7⟩
  · exact .inl h4
  · subst h5
    have := hn _ _ _ h1
    dsimp only at this
    exact .inr ⟨g, off, rfl, Nat.lt_of_lt_of_le h6 ht.size, fun i x hi j u hu => (World.cell?_of_block (ht.block g h6 (by omega) (by omega))).trans (h7 i x hi j u hu)⟩
theorem tight {w : World} {b n : Nat} {D : DataW Unit} (h : w.ownsMap Try.prog 9 fileR b n D) : w.ownsMap Try.prog 9 fileR b (Maps.size D) D := by
  obtain ⟨es, clock, h1, h2, h3, rfl⟩ := h
  refine ⟨es, clock, h1, h2, ?_, rfl⟩
  rw [size_eq, length_sorted]
  simp

set_option maxHeartbeats 1000000 in
set_option maxRecDepth 100000 in
theorem names_any {w : World} {k b n : Nat} {d : Dk} {l : List Fi} (h : DiskAt w k b n d) (hD : d.D = mkD l) (hr : Rise l) (hl : l.length ≤ 1000000) :
    Calls Try.prog 41 #[.pointer (some ⟨k, 0, none⟩)] w fun e w' => ∃ v, e = .returned v ∧ NSeg w'.heap.size w' v (l.map Fi.n) ∧ NewSl w.heap.size v ∧ Below w.heap.size w w' := by
  obtain ⟨c0, c1, c2, c3⟩ := h.box.cells4
  have hown := h.map
  rw [hD] at hown
  have hs := mkD_size l
  refine (callsIn_wide (n := 6)).1 ?_
  have hfK : Fence.wide.fn 55 := trivial
  have hfS : Fence.wide.fn 54 := trivial
  refine callsIn_of_wp Try.func41 rfl trivial ?_ rfl
  simp only [Try.ntmps41, List.size_toArray, List.length_cons, List.length_nil, Nat.reduceAdd, Nat.reduceSub, Array.replicate_succ, Array.replicate_zero, List.push_toArray, List.append_toArray, List.nil_append, List.cons_append]
  gi_wp2_with (first
    | (gi_at_call 55; refine (Try.keys_made _ _).mono ?_; rintro e w' ⟨rfl, rfl⟩)
    | (gi_at_call 54; refine (Try.keys_sorted b n (mkD l) fileR w hown (by rw [hs]; unfold maxLen; omega) (by rw [hs]; omega)).mono ?_; rintro e w' ⟨v, ss, rfl, hS, hrow, hb⟩))
  go_ret
  rw [mkD_keys] at hS
  rw [sort_names hr hS] at hrow
  have hlen : ss.length = (l.map Fi.n).length := hS.length_eq
  rw [hlen] at hrow
  exact ⟨v, rfl, NSeg.of_row hrow (by rw [List.length_map]; omega), NewSl.of_row (ownsRow_base_a hrow (by simp)), ((Below.refl _ w).alloc (Nat.le_refl _) _).trans (hb.mono (by simp))⟩

/-- What List tells. -/
def pList (p : Pd) : List (List UInt8) := if p.left = 0 then [] else p.l.map Fi.n
set_option maxHeartbeats 1000000 in
set_option maxRecDepth 100000 in
theorem List_any {w : World} {k b n : Nat} {p : Pd} (h : PdAt w k b n p) :
    Calls Try.prog 37 #[.pointer (some ⟨k, 0, none⟩)] w fun e w' => ∃ v, e = .returned v ∧ NSeg w'.heap.size w' v (pList p) ∧ NewSl w.heap.size v ∧ Below w.heap.size w w' := by
  have hd := Dead_any h.at_
  have hn := names_any h.at_ (l := p.l) rfl h.ok.rise (Nat.le_trans h.ok.len h.ok.many)
  unfold pList
  by_cases h0 : p.left = 0
  · rw [if_pos h0]
    have e2 : (p.dk.left == 0) = true := by simp [h0, Pd.dk]
    rw [e2] at hd
    go_enter Try.func37, Try.ntmps37
    go_wp2_with fail
    refine hd.mono ?_
    rintro e w1 ⟨rfl, rfl⟩
    go_wp2
    go_ret
    exact ⟨_, rfl, ⟨none, 0, rfl, by simp, .inl rfl⟩, (by intro a n c e; cases e), Below.refl _ _⟩
  · rw [if_neg h0]
    have e2 : (p.dk.left == 0) = false := by simp [h0, Pd.dk]
    rw [e2] at hd
    go_enter Try.func37, Try.ntmps37
    go_wp2_with fail
    refine hd.mono ?_
    rintro e w1 ⟨rfl, rfl⟩
    go_wp2_with fail
    refine hn.mono ?_
    rintro e w2 ⟨v, rfl, h1, h2, h3⟩
    go_wp2
    go_ret
    exact ⟨_, rfl, h1, h2, h3⟩
end Go.Proofs.Ytnokibjhkdaamaa
