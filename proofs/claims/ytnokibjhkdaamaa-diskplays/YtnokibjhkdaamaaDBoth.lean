/-
  Spoil, once more: it turns one block; a disk and the document's disk side by side.
-/
import Derived.Test.YtnokibjhkdaamaaDPutN
import Derived.Test.YtnokibjhkdaamaaDAlike
namespace Go.Proofs.Ytnokibjhkdaamaa
open Go.RowKit Go.Maps Go.Shelf

theorem RAt.offNew {w : World} {R : Nat} {p : Pd} {rs : List Rf} {vl : Value} (h : RAt w R p rs vl) {g : Nat} (hg : w.heap.size ≤ g) : Off g rs vl := by
  refine ⟨fun r hr hne a ha => ?_, fun hne a n c e => ?_⟩
  · obtain ⟨ao, cap, h1, _, _, _, h4⟩ := h.data r hr
    cases h1
    rcases h4 with h4 | ⟨b, off, h5, h6, _⟩
    · exact absurd h4 hne
    · rw [ha] at h5; cases h5
      show b ≠ g
      omega
  · obtain ⟨ao, cap, h1, _, h4⟩ := h.row
    rw [e] at h1
    cases h1
    rcases h4 with h4 | ⟨b, off, h5, h6, _⟩
    · exact absurd h4 hne
    · cases h5
      show b ≠ g
      omega
theorem RAt.off {w w' : World} {R : Nat} {p : Pd} {rs : List Rf} {vl : Value} (h : RAt w R p rs vl) {g : Nat} (ho : Off g rs vl) (hR : R ≠ g) (ht : Turned g g w w') : RAt w' R p rs vl := by
  refine ⟨?_, h.eq, ?_, fun r hr => ?_, h.cap⟩
  · have hl := h.box.lt
    have := h.box
    unfold BoxT at *
    rw [ht.block R hl hR hR]; exact this
  · obtain ⟨ao, cap, h1, h2, h4⟩ := h.row
    refine ⟨ao, cap, h1, h2, ?_⟩
    rcases h4 with h4 | ⟨b, off, h5, h6, h7⟩
    · exact .inl h4
    · by_cases h0 : rs = []
      · exact .inl h0
      · subst h5
        have hb : b ≠ g := ho.row h0 _ _ _ h1
        exact .inr ⟨b, off, rfl, Nat.lt_of_lt_of_le h6 ht.size, fun i x hi j u hu => (World.cell?_of_block (ht.block b h6 hb hb)).trans (h7 i x hi j u hu)⟩
  · obtain ⟨ao, cap, h1, h2, h3, h3', h4⟩ := h.data r hr
    refine ⟨ao, cap, h1, h2, h3, h3', ?_⟩
    rcases h4 with h4 | ⟨b, off, h5, h6, h7⟩
    · exact .inl h4
    · by_cases h0 : r.f.x = []
      · exact .inl h0
      · subst h5
        simp only [Value.slice.injEq] at h1
        have hb : b ≠ g := ho.data r hr h0 _ h1.1
        exact .inr ⟨b, off, rfl, Nat.lt_of_lt_of_le h6 ht.size, fun i x hi => (World.cell?_of_block (ht.block b h6 hb hb)).trans (h7 i x hi)⟩
theorem St.off {w0 w w' : World} {k b n : Nat} {p : Pd} (h : St w0 w k b n p) {g : Nat} (hg : w0.heap.size ≤ g) (hk : k ≠ g) (hb : b ≠ g) (ht : Turned g g w w') : St w0 w' k b n p := by
  refine ⟨h.d.other ht hk hk hb hb, ⟨h.s.lk, h.s.lb, ⟨ht.os.trans h.s.below.os, ht.tape.trans h.s.below.tape, ht.output.trans h.s.below.output, Nat.le_trans h.s.below.size ht.size, fun i hi => ?_⟩⟩⟩
  rw [ht.block i (Nat.lt_of_lt_of_le hi h.s.below.size) (by omega) (by omega)]
  exact h.s.below.block i hi
theorem Soft.turned {base : Nat} {w w' : World} {v : Value} (h : Soft base w v) {k b : Nat} (hk : k < base) (hb : b < base) (ht : Turned k b w w') : Soft base w' v := by
  obtain ⟨ao, n, c, h1, h2, h3⟩ := h
  refine ⟨ao, n, c, h1, h2, ?_⟩
  rcases h3 with h3 | ⟨g, off, h4, h5, h6⟩
  · exact .inl h3
  · refine .inr ⟨g, off, h4, h5, fun j hj => ?_⟩
    obtain ⟨⟨x, h7⟩, h8⟩ := h6 j hj
    have hl : g < w.heap.size := by
      rcases Nat.lt_or_ge g w.heap.size with h | h
      · exact h
      · unfold World.cell? at h7
        rw [Array.getElem?_eq_none h] at h7
        cases h7
    have hbl := ht.block g hl (by omega) (by omega)
    refine ⟨⟨x, ?_⟩, ?_⟩
    · rw [← h7]; unfold World.cell?; rw [hbl]
    · rw [← h8]; unfold World.frozen?; rw [hbl]

set_option maxHeartbeats 1000000 in
set_option maxRecDepth 100000 in
/-- Spoil turns the one block that its bytes lie in. -/
theorem Spoil_q {base : Nat} {w : World} {v : Value} (h : Soft base w v) :
    Calls Try.prog 20 #[v] w fun e w' => e = .returned (.tuple #[]) ∧ ∃ g, base ≤ g ∧ (w' = w ∨ ∃ off n c, v = .slice (some ⟨g, off, none⟩) n c) ∧ Turned g g w w' := by
  obtain ⟨ao, n, c, rfl, hn, h0⟩ := h
  rcases h0 with rfl | ⟨g, off, rfl, hg, hc⟩
  · go_enter Try.func20, Try.ntmps20
    go_wp2_with fail
    go_loopw [2] (fun iv wr => iv = .int .i64 0 ∧ wr = w) (fun iv _ => 0)
    case atStart => exact ⟨rfl, rfl⟩
    case round =>
      obtain ⟨rfl, rfl⟩ := hrel
      go_wp2
      go_end0
      exact ⟨rfl, base, Nat.le_refl _, .inl rfl, Turned.refl _ _ _⟩
  · have HS : Hid (Soft1 w g off n) := ⟨fun j hj => (hc j hj).1, fun j hj => (hc j hj).2⟩
    clear hc
    go_enter Try.func20, Try.ntmps20
    go_wp2_with fail
    go_loopw [2] (fun iv wr => ∃ i : Nat, i ≤ n ∧ iv = .int .i64 i ∧ Hid (Soft1 wr g off n ∧ Turned g g w wr)) (fun iv _ => n - (intOf iv).toNat)
    case atStart => exact ⟨0, Nat.zero_le _, rfl, HS.out, Turned.refl _ _ _⟩
    case round =>
      obtain ⟨i, hi, rfl, HI⟩ := hrel
      by_cases hlt : i < n
      · obtain ⟨x, hx⟩ := HI.out.1.cell i hlt
        have hf := HI.out.1.free i hlt
        have HT := fun y => hide (And.intro (HI.out.1.set i y) (HI.out.2.trans (Turned.set g g wr (off + i) (.int .u8 y))))
        go_wp2
        go_roundw
        case rel => exact ⟨i + 1, by omega, by go_num, (HT _).out⟩
        case measure => simp [intOf]; omega
      · obtain rfl : i = n := by omega
        go_wp2
        go_end0
        exact ⟨rfl, g, hg, .inr ⟨_, _, _, rfl⟩, HI.out.2⟩

/-- A disk and the document's disk of the same files. -/
structure Both (w0 w : World) (k b n R : Nat) (p : Pd) : Prop where
  st : St w0 w k b n p
  ref : ∃ rs vl, RAt w R p rs vl
  lR : w0.heap.size ≤ R
theorem Both.below {w0 w w' : World} {k b n R : Nat} {p : Pd} (h : Both w0 w k b n R p) (hb : Below w.heap.size w w') : Both w0 w' k b n R p := by
  obtain ⟨rs, vl, hr⟩ := h.ref
  exact ⟨h.st.below hb, ⟨rs, vl, hr.below hb⟩, h.lR⟩
/-- Behind both sides' steps. -/
theorem Both.step {w0 w w1 w2 : World} {k b n n' R : Nat} {p p' : Pd} (h : Both w0 w k b n R p) (h1 : St w0 w1 k b n' p') {rs : List Rf} {vl : Value} (hr : RAt w1 R p rs vl) (h2 : ∃ rs' vl', RAt w2 R p' rs' vl') (t2 : TurnedR R w1 w2) : Both w0 w2 k b n' R p' :=
  ⟨h1.ref hr h.lR t2, h2, h.lR⟩
theorem alike_b {w0 w : World} {k b n R : Nat} {p : Pd} (h : Both w0 w k b n R p) :
    Calls Try.prog 36 #[.pointer (some ⟨k, 0, none⟩), .pointer (some ⟨R, 0, none⟩)] w fun e w' => e = .returned (.bool true) ∧ Both w0 w' k b n R p := by
  obtain ⟨rs, vl, hr⟩ := h.ref
  exact (alike_p h.st.d hr).mono fun e w' ⟨h1, h2⟩ => ⟨h1, h.below h2⟩
end Go.Proofs.Ytnokibjhkdaamaa
