/-
  The document's Load and New.
-/
import Derived.Test.YtmipgfobggbndaaRBase
namespace Go.Proofs.Ytmipgfobggbndaa
open Go.RowKit

/-- Where the document's gate may lie behind a call. -/
def fdn (fd : Nat → Prop) (w w' : World) (i : Nat) : Prop := fd i ∨ (w.heap.size ≤ i ∧ i < w'.heap.size)
theorem RSeg.old {α : Type} {sz : Nat} {cs : α → List Value} {fd : Nat → Prop} {w w' : World} {v : Value} {xs : List α} {R : Nat} (h : RSeg sz cs fd w v xs) (hR : ¬ fd R) (T : Turned R R w w') : RSeg sz cs (fdn fd w w') w' v xs :=
  (h.back (fun _ hi hl => T.block _ hl (fun e => hR (e ▸ hi)) (fun e => hR (e ▸ hi))) T.size).mono (fun _ hi _ => .inl hi)
theorem RSeg.fresh {α : Type} {t sz : Nat} {cs : α → List Value} {fd : Nat → Prop} {w w' : World} {v : Value} {xs : List α} (h : OwnL t sz cs w.heap.size w' v xs) (hcs : ∀ x, (cs x).length = sz) (hl : xs.length ≤ 140737488355328) : RSeg sz cs (fdn fd w w') w' v xs :=
  RSeg.of_own h hcs hl (fun g e => .inr ⟨h.at g e, h.lt g e⟩)
theorem RSeg.bools {fq : Nat → Prop} {w : World} {b cap : Nat} {l : List Bool} (h : BoxT 4 w b (bls l)) (hq : fq b) (hl : l.length ≤ 1000000) (hc : l.length ≤ cap) : RSeg 1 blcs fq w (.slice (some ⟨b, 0, none⟩) l.length cap) l := by
  refine ⟨_, _, rfl, by omega, hc, .inr ⟨b, 0, rfl, hq, h.lt, fun i x hi j u hu => ?_⟩⟩
  match j, hu with
  | 0, hu =>
    obtain rfl : Value.bool x = u := by simpa [blcs] using hu
    rw [h.cellAt, bls_get]
    simpa using hi
  | j + 1, hu => simp [blcs] at hu
theorem RA.of {w w' : World} {R : Nat} {fd fq : Nat → Prop} {mv' cv' kv' : Value} {r' : Gs} (hf : ∀ i, fq i ↔ (i = R ∨ fd i)) (nR : ¬ fd R) (flt : ∀ i, fd i → i < w.heap.size) (hRl : R < w.heap.size) (T : Turned R R w w') (hb : BoxT 33 w' R #[mv', .int .u64 r'.la, .int .u64 r'.un, .bool r'.ov, cv', kv'])
    (hm : RSeg 1 i64cs (fdn fd w w') w' mv' r'.M) (hc : RSeg 1 blcs (fdn fd w w') w' cv' r'.co) (hk : RSeg 8 Ou.cs (fdn fd w w') w' kv' r'.cp) (len : r'.co.length = r'.M.length) (pos : 1 ≤ r'.M.length) (le : r'.M.length ≤ 64) (la0 : 0 ≤ r'.la) :
    ∃ fq', RA w' R fq' r' ∧ FT fq fq' w w' := by
  refine ⟨fun i => i = R ∨ fdn fd w w' i, ⟨fdn fd w w', mv', cv', kv', ⟨hb, hm, hc, hk, fun e => ?_, fun i hi => ?_, len, pos, le, la0⟩, fun _ => Iff.rfl⟩, ⟨T.os, T.tape, T.output, T.size, fun i hi hn => T.block i hi (fun e => hn ((hf i).2 (.inl e))) (fun e => hn ((hf i).2 (.inl e))), fun i hi => ?_⟩⟩
  · rcases e with e | e
    · exact nR e
    · omega
  · rcases hi with e | e
    · exact Nat.lt_of_lt_of_le (flt i e) T.size
    · exact e.2
  · rcases hi with e | e | e
    · exact .inl ((hf i).2 (.inl e))
    · exact .inl ((hf i).2 (.inr e))
    · exact .inr e.1
/-- What the document's Load leaves. -/
def RL (w : World) (R n : Nat) (la : Int) (ov : Bool) (l : List Int) (w' : World) : Prop := ∃ mv cb, BoxT 33 w' R #[mv, .int .u64 la, .int .u64 0, .bool ov, .slice (some ⟨cb, 0, none⟩) n n, .slice none 0 0] ∧ OwnL 2 1 i64cs w.heap.size w' mv l ∧ BoxT 4 w' cb (bls (List.replicate n false)) ∧ w.heap.size ≤ cb ∧ cb < w'.heap.size ∧ Turned R R w w'
theorem ldM_take {n : Nat} {l : List Int} {i : Nat} (hi : i < n) : (ldM n l).take (i + 1) = (ldM n l).take i ++ [if i < l.length then l.getD i 0 else mn] := by
  have hlt : i < (ldM n l).length := by rw [ldM_len]; exact hi
  have hg : (ldM n l)[i]? = some (if i < l.length then l.getD i 0 else mn) := by
    unfold ldM
    by_cases h : i < l.length
    · rw [if_pos h, List.getElem?_append_left (by simp; omega), List.getElem?_take, if_pos hi, List.getElem?_eq_getElem h]
      simp [h]
    · rw [if_neg h, List.getElem?_append_right (by simp; omega), List.getElem?_replicate, if_pos (by simp; omega)]
  rw [List.getElem?_eq_getElem hlt] at hg
  rw [List.take_succ_eq_append_getElem hlt, Option.some.inj hg]
theorem new1 (W : World) {n : Nat} (hn : n = W.heap.size) (x : Int) (j : Nat) (u : Value) (hu : (i64cs x)[j]? = some u) : (W.alloc (.cells #[.int .i64 x] 2)).cell? ((⟨n, 0, none⟩ : Addr).add j) = some u := by
  have hb : BoxT 2 _ n _ := BoxT.new_at (t := 2) (w := W) (cs := #[.int .i64 x]) hn
  rw [add_plain2, hb.cellAt, Nat.zero_add]
  match j, hu with
  | 0, hu => simp [i64cs] at hu; subst hu; rfl
  | j + 1, hu => simp [i64cs] at hu
set_option maxHeartbeats 2000000 in
set_option maxRecDepth 100000 in
theorem rLoad_core {w : World} {R n : Nat} {mv0 cv0 kv0 : Value} {la un0 : Int} {ov : Bool} (hb : BoxT 33 w R #[mv0, .int .u64 la, .int .u64 un0, .bool ov, cv0, kv0]) (h1 : 1 ≤ n) (h2 : n ≤ 64) {B : Nat} {v : Value} {l : List Int} (hv : LSeg 1 i64cs B w v l) (hBR : B ≤ R) : Calls Try.prog 12 #[.pointer (some ⟨R, 0, none⟩), v, .int .i64 (n : Int)] w fun e w' => e = .returned (.tuple #[]) ∧ RL w R n la ov (ldM n l) w' := by
  have hB := fun w => madeB w n (by omega)
  obtain ⟨va, vc, rfl⟩ := hv.shape
  have HV := hide hv
  have hlen := hv.len
  have hRl := hb.lt
  have bc := hb.cellAt
  have c0 := (bc 0).trans rfl
  have c2 := (bc 2).trans rfl
  have c4 := (bc 4).trans rfl
  have c5 := (bc 5).trans rfl
  have fr := hb.free
  obtain ⟨W1, hW1⟩ : ∃ W1, W1 = (((((w.setCell ⟨R, 0, none⟩ (.slice none 0 0)).setCell ⟨R, 4, none⟩ (.slice (some ⟨w.heap.size, 0, none⟩) n n)).setCell ⟨R, 2, none⟩ (.int .u64 0)).setCell ⟨R, 5, none⟩ (.slice none 0 0)).alloc (.cells (bls (List.replicate n false)) 4)).drew := ⟨_, rfl⟩
  have HB2 : Hid (BoxT 33 W1 R #[.slice none 0 0, .int .u64 la, .int .u64 0, .bool ov, .slice (some ⟨w.heap.size, 0, none⟩) n n, .slice none 0 0]) := by
    rw [hW1]
    have := (((((hb.set 0 (.slice none 0 0)).set 4 (.slice (some ⟨w.heap.size, 0, none⟩) n n)).set 2 (.int .u64 0)).set 5 (.slice none 0 0)).alloc (.cells (bls (List.replicate n false)) 4)).drew
    show BoxT _ _ _ _
    simpa using this
  have HC2 : Hid (BoxT 4 W1 w.heap.size (bls (List.replicate n false))) := by
    rw [hW1]
    exact (BoxT.new_at (by simp)).drew
  have HT1 : Hid (Turned R R w W1) := by
    rw [hW1]
    exact ((((Turned.set R R w 0 _).trans (Turned.set R R _ 4 _)).trans (Turned.set R R _ 2 _)).trans (Turned.set R R _ 5 _)).trans (Turned.below (((Below.refl _ _).alloc (Nat.le_refl _) _).drew))
  have HS1 : Hid (W1.heap.size = w.heap.size + 1) := by
    rw [hW1]
    show _ = _
    simp
  clear hv hb
  go_enter Try.func12, Try.ntmps12
  go_wp2_with fail
  go_cut [] from 8 to 21 (fun wx => wx = W1)
  case first =>
    refine wp_region_M (S := fun w' => True) (late := []) (by kernel_rfl) (trivial) (fun hHeld => ?_)
    (try simp only [List.size_toArray, List.length_cons, List.length_nil, Nat.zero_add, Nat.reduceAdd, Array.replicate, List.replicate])
    refine wpAnyM_take (i := 0) (oi := ⟨_, _, _, _, _, _⟩) (v := ?_) rfl (by kernel_rfl) (by kernel_rfl) (by kernel_rfl) (by kernel_rfl) (fun _ _ _ h => h) (Or.inl ⟨by rfl, ?_⟩) hHeld ?_
    rotate_left
    · (intro w' hSw; (try dsimp only at hSw); go_simp; try (with_reducible rfl))
    (try simp only [Act.put, List.setIfInBounds_toArray, List.set_cons_zero, List.set_cons_succ])
    refine wpAnyM_take (i := 1) (oi := ⟨_, _, _, _, _, _⟩) (v := ?_) rfl (by kernel_rfl) (by kernel_rfl) (by kernel_rfl) (by kernel_rfl) (fun _ _ _ h => h) (Or.inl ⟨by rfl, ?_⟩) hHeld ?_
    rotate_left
    · (intro w' hSw; (try dsimp only at hSw); go_simp; try (with_reducible rfl))
    (try simp only [Act.put, List.setIfInBounds_toArray, List.set_cons_zero, List.set_cons_succ])
    refine wpAnyM_take (i := 2) (oi := ⟨_, _, _, _, _, _⟩) (v := ?_) rfl (by kernel_rfl) (by kernel_rfl) (by kernel_rfl) (by kernel_rfl) (fun _ _ _ h => h) (Or.inl ⟨by rfl, ?_⟩) hHeld ?_
    rotate_left
    · (intro w' hSw; (try dsimp only at hSw); go_simp; try (with_reducible rfl))
    (try simp only [Act.put, List.setIfInBounds_toArray, List.set_cons_zero, List.set_cons_succ])
    refine wpAnyM_take (i := 3) (oi := ⟨_, _, _, _, _, _⟩) (v := ?_) rfl (by kernel_rfl) (by kernel_rfl) (by kernel_rfl) (by kernel_rfl) (fun _ _ _ h => h) (Or.inl ⟨by rfl, ?_⟩) hHeld ?_
    rotate_left
    · (intro w' hSw; (try dsimp only at hSw); go_simp; try (with_reducible rfl))
    (try simp only [Act.put, List.setIfInBounds_toArray, List.set_cons_zero, List.set_cons_succ])
    refine wpAnyM_take (i := 4) (oi := ⟨_, _, _, _, _, _⟩) (v := ?_) rfl (by kernel_rfl) (by kernel_rfl) (by kernel_rfl) (by kernel_rfl) (fun _ _ _ h => h) (Or.inl ⟨by rfl, ?_⟩) hHeld ?_
    rotate_left
    · (intro w' hSw; (try dsimp only at hSw); go_simp; try (with_reducible rfl))
    (try simp only [Act.put, List.setIfInBounds_toArray, List.set_cons_zero, List.set_cons_succ])
    refine wpAnyM_take (i := 6) (oi := ⟨_, _, _, _, _, _⟩) (v := ?_) rfl (by kernel_rfl) (by kernel_rfl) (by kernel_rfl) (by kernel_rfl) (fun _ _ _ h => h) (Or.inl ⟨by rfl, ?_⟩) hHeld ?_
    rotate_left
    · (intro w' hSw; (try dsimp only at hSw); go_simp; try (with_reducible rfl))
    (try simp only [Act.put, List.setIfInBounds_toArray, List.set_cons_zero, List.set_cons_succ])
    refine wpAnyM_take (i := 7) (oi := ⟨_, _, _, _, _, _⟩) (v := ?_) rfl (by kernel_rfl) (by kernel_rfl) (by kernel_rfl) (by kernel_rfl) (fun _ _ _ h => h) (Or.inl ⟨by rfl, ?_⟩) hHeld ?_
    rotate_left
    · (intro w' hSw; (try dsimp only at hSw); go_simp; try (with_reducible rfl))
    (try simp only [Act.put, List.setIfInBounds_toArray, List.set_cons_zero, List.set_cons_succ])
    refine wpAnyM_two (i := 5) (j := 8) (oi := ⟨_, _, _, _, _, _⟩) (oj := ⟨_, _, _, _, _, _⟩) (by kernel_rfl) rfl rfl (fun K hK => ?_) (fun K hK => ?_)
    · go_simp
      refine hK.out _ _ trivial (fun hHeld => ?_)
      clear hK K
      (try simp only [List.setIfInBounds_toArray, List.set_cons_zero, List.set_cons_succ])
      refine wpAnyM_one (i := 8) (o := ⟨_, _, _, _, _, _⟩) (by kernel_rfl) rfl (fun K hK => ?_)
      go_simp
      refine hK.out _ _ (trivial) (fun hHeld => ?_)
      clear hK K
      (try simp only [List.setIfInBounds_toArray, List.set_cons_zero, List.set_cons_succ])
      refine wpAnyM_take (i := 9) (oi := ⟨_, _, _, _, _, _⟩) (v := ?_) rfl (by kernel_rfl) (by kernel_rfl) (by kernel_rfl) (by kernel_rfl) (fun _ _ _ h => h) (Or.inl ⟨by rfl, ?_⟩) hHeld ?_
      rotate_left
      · (intro w' hSw; (try dsimp only at hSw); go_simp; try (with_reducible rfl))
      (try simp only [Act.put, List.setIfInBounds_toArray, List.set_cons_zero, List.set_cons_succ])
      refine wpAnyM_take (i := 10) (oi := ⟨_, _, _, _, _, _⟩) (v := ?_) rfl (by kernel_rfl) (by kernel_rfl) (by kernel_rfl) (by kernel_rfl) (fun _ _ _ h => h) (Or.inl ⟨by rfl, ?_⟩) hHeld ?_
      rotate_left
      · (intro w' hSw; (try dsimp only at hSw); go_simp; try (with_reducible rfl))
      (try simp only [Act.put, List.setIfInBounds_toArray, List.set_cons_zero, List.set_cons_succ])
      refine wpAnyM_one (i := 11) (o := ⟨_, _, _, _, _, _⟩) (by kernel_rfl) rfl (fun K hK => ?_)
      go_simp
      refine hK.out _ _ (trivial) (fun hHeld => ?_)
      clear hK K
      (try simp only [List.setIfInBounds_toArray, List.set_cons_zero, List.set_cons_succ])
      refine wpAnyM_take (i := 12) (oi := ⟨_, _, _, _, _, _⟩) (v := ?_) rfl (by kernel_rfl) (by kernel_rfl) (by kernel_rfl) (by kernel_rfl) (fun _ _ _ h => h) (Or.inl ⟨by rfl, ?_⟩) hHeld ?_
      rotate_left
      · (intro w' hSw; (try dsimp only at hSw); go_simp; try (with_reducible rfl))
      (try simp only [Act.put, List.setIfInBounds_toArray, List.set_cons_zero, List.set_cons_succ])
      refine wpAnyM_take (i := 13) (oi := ⟨_, _, _, _, _, _⟩) (v := ?_) rfl (by kernel_rfl) (by kernel_rfl) (by kernel_rfl) (by kernel_rfl) (fun _ _ _ h => h) (Or.inl ⟨by rfl, ?_⟩) hHeld ?_
      rotate_left
      · (intro w' hSw; (try dsimp only at hSw); go_simp; try (with_reducible rfl))
      (try simp only [Act.put, List.setIfInBounds_toArray, List.set_cons_zero, List.set_cons_succ])
      refine wpAnyM_one (i := 14) (o := ⟨_, _, _, _, _, _⟩) (by kernel_rfl) rfl (fun K hK => ?_)
      go_simp
      refine hK.out _ _ (trivial) (fun hHeld => ?_)
      clear hK K
      (try simp only [List.setIfInBounds_toArray, List.set_cons_zero, List.set_cons_succ])
      refine wpAnyM_take (i := 15) (oi := ⟨_, _, _, _, _, _⟩) (v := ?_) rfl (by kernel_rfl) (by kernel_rfl) (by kernel_rfl) (by kernel_rfl) (fun _ _ _ h => h) (Or.inl ⟨by rfl, ?_⟩) hHeld ?_
      rotate_left
      · (intro w' hSw; (try dsimp only at hSw); go_simp; try (with_reducible rfl))
      (try simp only [Act.put, List.setIfInBounds_toArray, List.set_cons_zero, List.set_cons_succ])
      refine wpAnyM_take (i := 16) (oi := ⟨_, _, _, _, _, _⟩) (v := ?_) rfl (by kernel_rfl) (by kernel_rfl) (by kernel_rfl) (by kernel_rfl) (fun _ _ _ h => h) (Or.inl ⟨by rfl, ?_⟩) hHeld ?_
      rotate_left
      · (intro w' hSw; (try dsimp only at hSw); go_simp; try (with_reducible rfl))
      (try simp only [Act.put, List.setIfInBounds_toArray, List.set_cons_zero, List.set_cons_succ])
      refine wpAnyM_one (i := 17) (o := ⟨_, _, _, _, _, _⟩) (by kernel_rfl) rfl (fun K hK => ?_)
      go_simp
      refine hK.out _ _ (trivial) (fun hHeld => ?_)
      clear hK K
      (try simp only [List.setIfInBounds_toArray, List.set_cons_zero, List.set_cons_succ])
      refine wpAnyM_done (by kernel_rfl) ?_ _
      go_wp2_with fail
      go_meet
      rw [hW1]
    · go_simp
      refine hK.out _ _ trivial (fun hHeld => ?_)
      clear hK K
      (try simp only [List.setIfInBounds_toArray, List.set_cons_zero, List.set_cons_succ])
      refine wpAnyM_one (i := 5) (o := ⟨_, _, _, _, _, _⟩) (by kernel_rfl) rfl (fun K hK => ?_)
      go_simp
      refine hK.out _ _ (trivial) (fun hHeld => ?_)
      clear hK K
      (try simp only [List.setIfInBounds_toArray, List.set_cons_zero, List.set_cons_succ])
      refine wpAnyM_take (i := 9) (oi := ⟨_, _, _, _, _, _⟩) (v := ?_) rfl (by kernel_rfl) (by kernel_rfl) (by kernel_rfl) (by kernel_rfl) (fun _ _ _ h => h) (Or.inl ⟨by rfl, ?_⟩) hHeld ?_
      rotate_left
      · (intro w' hSw; (try dsimp only at hSw); go_simp; try (with_reducible rfl))
      (try simp only [Act.put, List.setIfInBounds_toArray, List.set_cons_zero, List.set_cons_succ])
      refine wpAnyM_take (i := 10) (oi := ⟨_, _, _, _, _, _⟩) (v := ?_) rfl (by kernel_rfl) (by kernel_rfl) (by kernel_rfl) (by kernel_rfl) (fun _ _ _ h => h) (Or.inl ⟨by rfl, ?_⟩) hHeld ?_
      rotate_left
      · (intro w' hSw; (try dsimp only at hSw); go_simp; try (with_reducible rfl))
      (try simp only [Act.put, List.setIfInBounds_toArray, List.set_cons_zero, List.set_cons_succ])
      refine wpAnyM_one (i := 11) (o := ⟨_, _, _, _, _, _⟩) (by kernel_rfl) rfl (fun K hK => ?_)
      go_simp
      refine hK.out _ _ (trivial) (fun hHeld => ?_)
      clear hK K
      (try simp only [List.setIfInBounds_toArray, List.set_cons_zero, List.set_cons_succ])
      refine wpAnyM_take (i := 12) (oi := ⟨_, _, _, _, _, _⟩) (v := ?_) rfl (by kernel_rfl) (by kernel_rfl) (by kernel_rfl) (by kernel_rfl) (fun _ _ _ h => h) (Or.inl ⟨by rfl, ?_⟩) hHeld ?_
      rotate_left
      · (intro w' hSw; (try dsimp only at hSw); go_simp; try (with_reducible rfl))
      (try simp only [Act.put, List.setIfInBounds_toArray, List.set_cons_zero, List.set_cons_succ])
      refine wpAnyM_take (i := 13) (oi := ⟨_, _, _, _, _, _⟩) (v := ?_) rfl (by kernel_rfl) (by kernel_rfl) (by kernel_rfl) (by kernel_rfl) (fun _ _ _ h => h) (Or.inl ⟨by rfl, ?_⟩) hHeld ?_
      rotate_left
      · (intro w' hSw; (try dsimp only at hSw); go_simp; try (with_reducible rfl))
      (try simp only [Act.put, List.setIfInBounds_toArray, List.set_cons_zero, List.set_cons_succ])
      refine wpAnyM_one (i := 14) (o := ⟨_, _, _, _, _, _⟩) (by kernel_rfl) rfl (fun K hK => ?_)
      go_simp
      refine hK.out _ _ (trivial) (fun hHeld => ?_)
      clear hK K
      (try simp only [List.setIfInBounds_toArray, List.set_cons_zero, List.set_cons_succ])
      refine wpAnyM_take (i := 15) (oi := ⟨_, _, _, _, _, _⟩) (v := ?_) rfl (by kernel_rfl) (by kernel_rfl) (by kernel_rfl) (by kernel_rfl) (fun _ _ _ h => h) (Or.inl ⟨by rfl, ?_⟩) hHeld ?_
      rotate_left
      · (intro w' hSw; (try dsimp only at hSw); go_simp; try (with_reducible rfl))
      (try simp only [Act.put, List.setIfInBounds_toArray, List.set_cons_zero, List.set_cons_succ])
      refine wpAnyM_take (i := 16) (oi := ⟨_, _, _, _, _, _⟩) (v := ?_) rfl (by kernel_rfl) (by kernel_rfl) (by kernel_rfl) (by kernel_rfl) (fun _ _ _ h => h) (Or.inl ⟨by rfl, ?_⟩) hHeld ?_
      rotate_left
      · (intro w' hSw; (try dsimp only at hSw); go_simp; try (with_reducible rfl))
      (try simp only [Act.put, List.setIfInBounds_toArray, List.set_cons_zero, List.set_cons_succ])
      refine wpAnyM_one (i := 17) (o := ⟨_, _, _, _, _, _⟩) (by kernel_rfl) rfl (fun K hK => ?_)
      go_simp
      refine hK.out _ _ (trivial) (fun hHeld => ?_)
      clear hK K
      (try simp only [List.setIfInBounds_toArray, List.set_cons_zero, List.set_cons_succ])
      refine wpAnyM_done (by kernel_rfl) ?_ _
      go_wp2_with fail
      go_meet
      rw [hW1]
  have hcut2 := hcut.symm
  subst hcut2
  clear c0 c2 c4 c5 fr bc hB hW1
  have HRL : Hid (RL w R n la ov ((ldM n l).take 0) W1) := ⟨.slice none 0 0, w.heap.size, HB2.out, OwnL.nil _ _ _ _ _, HC2.out, Nat.le_refl _, HC2.out.lt, HT1.out⟩
  clear HB2 HC2 HT1 HS1
  go_wp2_with fail
  go_loopg [6, 7] (n + 1) (fun gh iv _ wr => ∃ i : Nat, iv = .int .i64 (i : Int) ∧ i ≤ n ∧ n + 1 ≤ gh + i ∧ Hid (RL w R n la ov ((ldM n l).take i) wr))
  case atStart => exact ⟨0, rfl, by omega, by omega, HRL⟩
  case round =>
    obtain ⟨i, rfl, hi, hg, HW⟩ := hrel
    obtain ⟨go, rfl⟩ : ∃ go, gk = go + 1 := ⟨gk - 1, by omega⟩
    by_cases hlt : i < n
    · have bt : (i : Int) < (n : Int) := by omega
      have HTK := hide (ldM_take (l := l) hlt)
      have HLN : Hid (((ldM n l).take i).length ≤ 1000000) := (show _ ≤ _ by rw [List.length_take, ldM_len]; omega)
      obtain ⟨mv, cb, k1, k2, k3, k4, k5, k6⟩ := HW.out
      have HBV : Hid (Below B w wr) := ⟨k6.os, k6.tape, k6.output, k6.size, fun j hj => k6.block j (by omega) (by omega) (by omega)⟩
      generalize (ldM n l).take i = li at *
      have c0 := (k1.cellAt 0).trans rfl
      obtain ⟨ma, mc, rfl⟩ := k2.shape
      have K1 := hide k1
      have K2 := hide k2
      have K3 := hide (And.intro k3 (And.intro k4 k5))
      have K6 := hide k6
      have hRr := k1.lt
      clear k1 k2 k3 k4 k5 k6 HW
      by_cases hil : i < l.length
      · have bl : (i : Int) < (l.length : Int) := by omega
        obtain ⟨x, hx⟩ := get_of_lt hil
        obtain ⟨nb, no, rfl, nlt, d0⟩ := seg_int (HV.out.below HBV.out) hx
        have hX : (if i < l.length then l.getD i 0 else mn) = x := by rw [if_pos hil]; simp [hx]
        rw [hX] at HTK
        clear hX hx
        have BA := hide (below_box wr (.cells #[.int .i64 x] 2))
        have A2 := hide (K2.out.below BA.out)
        have A1 := hide (K1.out.below BA.out)
        have AZ : Hid (w.heap.size ≤ (wr.alloc (.cells #[.int .i64 x] 2)).heap.size) := (show _ ≤ _ by have := K6.out.size; simp; omega)
        go_wp2_with (at_builtin; refine app_L Try.info2' Try.underlying28 rfl (by decide) (by decide) i64cs_len i64cs_one rfl _ _ rfl w.heap.size _ li rfl A2.out _ _ x rfl (new1 wr rfl x) HLN.out AZ.out ?_; intro v5 w5 h5 g5 k5; have Q5 := hide (A1.out.back (g5.block R A1.out.lt (fun e => by obtain ⟨cur, hc⟩ := A2.out.has R e.symm; exact BoxT.ne (t := 33) (t' := 2) A1.out hc (by decide) rfl))); obtain ⟨a5, e5, hv5⟩ := h5.shape; have H5 := hide h5; have G5 := hide g5; generalize hn5 : (li ++ [x]).length = n5 at hv5; subst hv5; have d5 := (Q5.out.cellAt 0).trans rfl; have fr5 := Q5.out.free; clear h5 g5 k5 hn5)
        go_roundg go
        case rel =>
          refine ⟨i + 1, by go_num, by omega, by omega, (show RL _ _ _ _ _ _ _ from ⟨.slice a5 n5 e5, cb, ?_, ?_, ?_, K3.out.2.1, ?_, ?_⟩)⟩
          · simpa using Q5.out.set 0 (.slice a5 n5 e5)
          · rw [HTK.out]
            exact H5.out.otherBox Q5.out (by decide) _ _
          · have q := K3.out.1.below BA.out
            have q2 := q.back (G5.out.block cb q.lt (fun e => by obtain ⟨cur, hc⟩ := A2.out.has cb e.symm; exact BoxT.ne (t := 4) (t' := 2) q hc (by decide) rfl))
            exact q2.other 0 _ (fun e => BoxT.ne (t := 4) (t' := 33) q2 Q5.out (by decide) e)
          · have a := K3.out.2.2
            have b := BA.out.size
            have c := G5.out.size
            simp only [World.size_setCell]
            omega
          · have T2 := K6.out.trans (Turned.below BA.out)
            refine Turned.trans (v := w5) ⟨G5.out.os.trans T2.os, G5.out.tape.trans T2.tape, G5.out.output.trans T2.output, Nat.le_trans T2.size G5.out.size, fun j hj h1 h2 => (G5.out.block j (Nat.lt_of_lt_of_le hj T2.size) (fun e => by have := A2.out.at j e.symm; omega)).trans (T2.block j hj h1 h2)⟩ (Turned.set R R w5 0 _)
        case measure => omega
      · have bl : ¬ (i : Int) < (l.length : Int) := by omega
        have hX : (if i < l.length then l.getD i 0 else mn) = mn := if_neg hil
        rw [hX] at HTK
        clear hX
        obtain ⟨x, hxm⟩ : ∃ x, x = mn := ⟨mn, rfl⟩
        rw [← hxm] at HTK
        have hxn : (-9223372036854775808 : Int) = x := by rw [hxm]; rfl
        clear hxm
        have BA := hide (below_box wr (.cells #[.int .i64 x] 2))
        have A2 := hide (K2.out.below BA.out)
        have A1 := hide (K1.out.below BA.out)
        have AZ : Hid (w.heap.size ≤ (wr.alloc (.cells #[.int .i64 x] 2)).heap.size) := (show _ ≤ _ by have := K6.out.size; simp; omega)
        go_wp2_with (at_builtin; refine app_L Try.info2' Try.underlying28 rfl (by decide) (by decide) i64cs_len i64cs_one rfl _ _ rfl w.heap.size _ li rfl A2.out _ _ x rfl (new1 wr rfl x) HLN.out AZ.out ?_; intro v5 w5 h5 g5 k5; have Q5 := hide (A1.out.back (g5.block R A1.out.lt (fun e => by obtain ⟨cur, hc⟩ := A2.out.has R e.symm; exact BoxT.ne (t := 33) (t' := 2) A1.out hc (by decide) rfl))); obtain ⟨a5, e5, hv5⟩ := h5.shape; have H5 := hide h5; have G5 := hide g5; generalize hn5 : (li ++ [x]).length = n5 at hv5; subst hv5; have d5 := (Q5.out.cellAt 0).trans rfl; have fr5 := Q5.out.free; clear h5 g5 k5 hn5)
        go_roundg go
        case rel =>
          refine ⟨i + 1, by go_num, by omega, by omega, (show RL _ _ _ _ _ _ _ from ⟨.slice a5 n5 e5, cb, ?_, ?_, ?_, K3.out.2.1, ?_, ?_⟩)⟩
          · simpa using Q5.out.set 0 (.slice a5 n5 e5)
          · rw [HTK.out]
            exact H5.out.otherBox Q5.out (by decide) _ _
          · have q := K3.out.1.below BA.out
            have q2 := q.back (G5.out.block cb q.lt (fun e => by obtain ⟨cur, hc⟩ := A2.out.has cb e.symm; exact BoxT.ne (t := 4) (t' := 2) q hc (by decide) rfl))
            exact q2.other 0 _ (fun e => BoxT.ne (t := 4) (t' := 33) q2 Q5.out (by decide) e)
          · have a := K3.out.2.2
            have b := BA.out.size
            have c := G5.out.size
            simp only [World.size_setCell]
            omega
          · have T2 := K6.out.trans (Turned.below BA.out)
            refine Turned.trans (v := w5) ⟨G5.out.os.trans T2.os, G5.out.tape.trans T2.tape, G5.out.output.trans T2.output, Nat.le_trans T2.size G5.out.size, fun j hj h1 h2 => (G5.out.block j (Nat.lt_of_lt_of_le hj T2.size) (fun e => by have := A2.out.at j e.symm; omega)).trans (T2.block j hj h1 h2)⟩ (Turned.set R R w5 0 _)
        case measure => omega
    · have bt : ¬ (i : Int) < (n : Int) := by omega
      obtain rfl : n = i := by omega
      have HE : Hid (RL w R n la ov (ldM n l) wr) := by
        have := HW.out
        rw [List.take_of_length_le (by rw [ldM_len]; exact Nat.le_refl _)] at this
        exact this
      go_wp2_with fail
      go_end0
      exact ⟨rfl, HE.out⟩
theorem rLoad_any {w : World} {R : Nat} {fq : Nat → Prop} {r : Gs} (h : RA w R fq r) {n : Nat} (hn : n = r.M.length) {B : Nat} {v : Value} {l : List Int} (hv : LSeg 1 i64cs B w v l) (hBR : B ≤ R) : Calls Try.prog 12 #[.pointer (some ⟨R, 0, none⟩), v, .int .i64 (n : Int)] w fun e w' => e = .returned (.tuple #[]) ∧ ∃ fq', RA w' R fq' { r with M := ldM n l, un := 0, co := List.replicate n false, cp := [] } ∧ FT fq fq' w w' := by
  obtain ⟨fd, mv, cv, kv, X, hf⟩ := h
  have h1 := X.pos
  have h2 := X.le
  refine (rLoad_core X.box (by omega) (by omega) hv hBR).mono ?_
  rintro e w' ⟨rfl, mv', cb, k1, k2, k3, k4, k5, k6⟩
  refine ⟨rfl, RA.of (mv' := mv') (cv' := .slice (some ⟨cb, 0, none⟩) n n) (kv' := .slice none 0 0) hf X.nR X.flt X.box.lt k6 k1 (RSeg.fresh k2 i64cs_len (by rw [ldM_len]; omega)) ?_ (RSeg.nil _ _ _ _) (by simp [ldM_len]) (by show 1 ≤ (ldM n l).length; rw [ldM_len]; omega) (by show (ldM n l).length ≤ 64; rw [ldM_len]; omega) X.la0⟩
  have := RSeg.bools (fq := fdn fd w w') (cap := n) k3 (.inr ⟨k4, k5⟩) (by simp; omega) (by simp)
  simpa using this
def Gs.rnew (n : Nat) : Gs := { M := List.replicate n mn, la := 0, un := 0, ov := false, co := List.replicate n false, cp := [] }
theorem Gs.rnew_eq (n : Nat) : Gs.rnew n = Gs.new n := rfl
theorem mk0 (w : World) : (Instr.makeSlice 28 (.int .i64 0) (.int .i64 0)).run Try.prog w = .ok (.slice (some ⟨w.heap.size, 0, none⟩) 0 0) (w.alloc (.cells (i64s []) 2)) := madeI w 0 (by omega)
def RN (w : World) (n R : Nat) (w' : World) : Prop := ∃ fq, RA w' R fq (Gs.new n) ∧ Below w.heap.size w w' ∧ ∀ i, fq i → w.heap.size ≤ i
theorem RN.of {w w1 w2 : World} {n R : Nat} (h1 : 1 ≤ n) (h2 : n ≤ 64) (hb : Below w.heap.size w w1) (hR : w.heap.size ≤ R) (hl : R < w1.heap.size) (h : RL w1 R n 0 false (ldM n []) w2) : RN w n R w2 := by
  obtain ⟨mv', cb, k1, k2, k3, k4, k5, k6⟩ := h
  have hf : ∀ i, (i = R) ↔ (i = R ∨ False) := fun i => by simp
  obtain ⟨fq', a, b⟩ := RA.of (r' := Gs.new n) (fd := fun _ => False) (fq := fun i => i = R) (mv' := mv') (cv' := .slice (some ⟨cb, 0, none⟩) n n) (kv' := .slice none 0 0) hf (fun e => e) (fun _ e => e.elim) hl k6 k1 (by have := RSeg.fresh (fd := fun _ => False) k2 i64cs_len (by rw [ldM_len]; omega); rw [ldM_nil] at this; exact this) (by
    have := RSeg.bools (fq := fdn (fun _ => False) w1 w2) (cap := n) k3 (.inr ⟨k4, k5⟩) (by simp; omega) (by simp)
    simpa [Gs.new] using this) (RSeg.nil _ _ _ _) (by simp [Gs.new]) (by simpa [Gs.new] using h1) (by simpa [Gs.new] using h2) (by simp [Gs.new])
  refine ⟨fq', a, hb.trans (b.below hb.size (fun i e => by omega)), fun i hi => ?_⟩
  rcases b.sub i hi with e | e
  · omega
  · exact Nat.le_trans hb.size e
set_option maxHeartbeats 2000000 in
set_option maxRecDepth 100000 in
theorem rNew_mid {w : World}  {n : Nat} (h1 : 1 ≤ n) (h2 : n ≤ 64)  : Calls Try.prog 10 #[.int .i64 (n : Int)] w fun e w' => ∃ R, e = .returned (.pointer (some ⟨R, 0, none⟩)) ∧ RN w n R w' := by
  have hq : ¬ (64 : Int) < (n : Int) := by omega
  have hm : ¬ (n : Int) < 1 := by omega
  have hm2 : max (n : Int) 1 = (n : Int) := by omega
  have hm0 := mk0
  have HB := hide (BoxT.new 33 w #[.slice none 0 0, .int .u64 0, .int .u64 0, .bool false, .slice none 0 0, .slice none 0 0])
  have HB2 := hide (HB.out.alloc (.cells (i64s []) 2))
  have HL := hide (rLoad_core (n := n) (B := w.heap.size) (v := .slice (some ⟨w.heap.size + 1, 0, none⟩) 0 0) (l := []) HB2.out h1 h2 ⟨some ⟨w.heap.size + 1, 0, none⟩, 0, rfl, by simp, .inl rfl⟩ (Nat.le_refl _))
  go_enter Try.func10, Try.ntmps10
  go_wp2_with (go_at_call 12; refine HL.out.mono ?_; rintro e w2 ⟨rfl, g2⟩)
  go_ret
  exact ⟨w.heap.size, rfl, RN.of h1 h2 (below_box2 _ _ _) (Nat.le_refl _) (by simp; omega) g2⟩
set_option maxHeartbeats 2000000 in
set_option maxRecDepth 100000 in
theorem rNew_low {w : World} (c : Int) {n : Nat} (h1 : 1 ≤ n) (h2 : n ≤ 64) (hm : c < 1) (hn : n = 1) : Calls Try.prog 10 #[.int .i64 c] w fun e w' => ∃ R, e = .returned (.pointer (some ⟨R, 0, none⟩)) ∧ RN w n R w' := by
  have hq : max c 1 = 1 := by omega
  have hm0 := mk0
  have HB := hide (BoxT.new 33 w #[.slice none 0 0, .int .u64 0, .int .u64 0, .bool false, .slice none 0 0, .slice none 0 0])
  have HB2 := hide (HB.out.alloc (.cells (i64s []) 2))
  have HL := hide (rLoad_core (n := n) (B := w.heap.size) (v := .slice (some ⟨w.heap.size + 1, 0, none⟩) 0 0) (l := []) HB2.out h1 h2 ⟨some ⟨w.heap.size + 1, 0, none⟩, 0, rfl, by simp, .inl rfl⟩ (Nat.le_refl _))
  have hn1 : ((n : Nat) : Int) = 1 := by omega
  rw [hn1] at HL
  clear hn1 hn
  go_enter Try.func10, Try.ntmps10
  go_wp2_with (go_at_call 12; refine HL.out.mono ?_; rintro e w2 ⟨rfl, g2⟩)
  go_ret
  exact ⟨w.heap.size, rfl, RN.of h1 h2 (below_box2 _ _ _) (Nat.le_refl _) (by simp; omega) g2⟩
set_option maxHeartbeats 2000000 in
set_option maxRecDepth 100000 in
theorem rNew_top {w : World} (c : Int) {n : Nat} (h1 : 1 ≤ n) (h2 : n ≤ 64) (hm : 64 < c) (hn : n = 64) : Calls Try.prog 10 #[.int .i64 c] w fun e w' => ∃ R, e = .returned (.pointer (some ⟨R, 0, none⟩)) ∧ RN w n R w' := by
  have hq : max c 1 = c := by omega
  have hm0 := mk0
  have HB := hide (BoxT.new 33 w #[.slice none 0 0, .int .u64 0, .int .u64 0, .bool false, .slice none 0 0, .slice none 0 0])
  have HB2 := hide (HB.out.alloc (.cells (i64s []) 2))
  have HL := hide (rLoad_core (n := n) (B := w.heap.size) (v := .slice (some ⟨w.heap.size + 1, 0, none⟩) 0 0) (l := []) HB2.out h1 h2 ⟨some ⟨w.heap.size + 1, 0, none⟩, 0, rfl, by simp, .inl rfl⟩ (Nat.le_refl _))
  have hn1 : ((n : Nat) : Int) = 64 := by omega
  rw [hn1] at HL
  clear hn1 hn
  go_enter Try.func10, Try.ntmps10
  go_wp2_with (go_at_call 12; refine HL.out.mono ?_; rintro e w2 ⟨rfl, g2⟩)
  go_ret
  exact ⟨w.heap.size, rfl, RN.of h1 h2 (below_box2 _ _ _) (Nat.le_refl _) (by simp; omega) g2⟩
theorem chans_in (c : Int) : 1 ≤ chans c ∧ chans c ≤ 64 := by
  unfold chans
  by_cases a : c < 1
  · rw [if_pos a]; omega
  · rw [if_neg a]
    by_cases b : 64 < c
    · rw [if_pos b]; omega
    · rw [if_neg b]; omega
theorem rNew_any {w : World} (c : Int) : Calls Try.prog 10 #[.int .i64 c] w fun e w' => ∃ R, e = .returned (.pointer (some ⟨R, 0, none⟩)) ∧ RN w (chans c) R w' := by
  have h1 := chans_in c
  by_cases b : 64 < c
  · exact rNew_top c h1.1 h1.2 b (by unfold chans; rw [if_neg (by omega), if_pos b])
  · by_cases a : c < 1
    · exact rNew_low c h1.1 h1.2 a (by unfold chans; rw [if_pos a])
    · have e : c = (chans c : Int) := by unfold chans; rw [if_neg a, if_neg b]; omega
      have := rNew_mid (w := w) h1.1 h1.2
      rw [← e] at this
      exact this
end Go.Proofs.Ytmipgfobggbndaa
