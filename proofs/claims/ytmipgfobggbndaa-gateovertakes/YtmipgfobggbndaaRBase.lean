/-
  The document's gate as it lies; its Blocked and Mark.
-/
import Derived.Test.YtmipgfobggbndaaGPure
import Derived.Test.YtmipgfobggbndaaGNew
namespace Go.Proofs.Ytmipgfobggbndaa
open Go.RowKit

def blcs (x : Bool) : List Value := [.bool x]
theorem blcs_len (x : Bool) : (blcs x).length = 1 := rfl
theorem blcs_one (x : Bool) : ∀ u ∈ blcs x, u.oneCell' = true := by intro u hu; simp [blcs] at hu; subst hu; rfl
/-- v is a slice of just the things xs, in a block of fq. -/
def RSeg {α : Type} (sz : Nat) (cs : α → List Value) (fq : Nat → Prop) (w : World) (v : Value) (xs : List α) : Prop :=
  ∃ ao cap, v = .slice ao xs.length cap ∧ xs.length ≤ 140737488355328 ∧ xs.length ≤ cap ∧ (xs = [] ∨ ∃ b off, ao = some ⟨b, off, none⟩ ∧ fq b ∧ b < w.heap.size ∧ ∀ (i : Nat) (x : α), xs[i]? = some x → ∀ (j : Nat) (u : Value), (cs x)[j]? = some u → w.cell? ⟨b, off + i * sz + j, none⟩ = some u)
section
variable {α : Type} {t sz : Nat} {cs : α → List Value} {fq fq' : Nat → Prop} {w w' : World} {v : Value} {xs : List α} {base : Nat}
theorem RSeg.lseg (h : RSeg sz cs fq w v xs) : LSeg sz cs w.heap.size w v xs := by
  obtain ⟨ao, cap, h1, h2, _, h3⟩ := h
  refine ⟨ao, cap, h1, h2, ?_⟩
  rcases h3 with h3 | ⟨b, off, h4, _, h5, h6⟩
  · exact .inl h3
  · exact .inr ⟨b, off, h4, h5, h6⟩
theorem RSeg.back (h : RSeg sz cs fq w v xs) (hb : ∀ i, fq i → i < w.heap.size → w'.heap[i]? = w.heap[i]?) (hs : w.heap.size ≤ w'.heap.size) : RSeg sz cs fq w' v xs := by
  obtain ⟨ao, cap, h1, h2, hc, h3⟩ := h
  refine ⟨ao, cap, h1, h2, hc, ?_⟩
  rcases h3 with h3 | ⟨b, off, h4, hq, h5, h6⟩
  · exact .inl h3
  · refine .inr ⟨b, off, h4, hq, by omega, fun i x hi j u hu => ?_⟩
    have := h6 i x hi j u hu
    have hbl := hb b hq h5
    simp only [World.cell?] at this ⊢
    rw [hbl]
    exact this
theorem RSeg.mono (h : RSeg sz cs fq w v xs) (hm : ∀ i, fq i → i < w.heap.size → fq' i) : RSeg sz cs fq' w v xs := by
  obtain ⟨ao, cap, h1, h2, hc, h3⟩ := h
  refine ⟨ao, cap, h1, h2, hc, ?_⟩
  rcases h3 with h3 | ⟨b, off, h4, hq, h5, h6⟩
  · exact .inl h3
  · exact .inr ⟨b, off, h4, hm b hq h5, h5, h6⟩
theorem RSeg.of_own (h : OwnL t sz cs base w v xs) (hcs : ∀ x, (cs x).length = sz) (hl : xs.length ≤ 140737488355328) (hq : ∀ g, v.ownBlock = some g → fq g) : RSeg sz cs fq w v xs := by
  have hseg := h.seg hcs hl
  obtain ⟨ao, cap, e, h2, h3⟩ := hseg
  have hcap : xs.length ≤ cap := by
    rcases h.2 with ⟨e2, h0⟩ | ⟨g, cap', cur, e2, _, _, h4, _⟩
    · omega
    · rw [e] at e2; cases e2; exact h4
  refine ⟨ao, cap, e, h2, hcap, ?_⟩
  rcases h3 with h3 | ⟨b, off, h4, h5, h6⟩
  · exact .inl h3
  · refine .inr ⟨b, off, h4, hq b ?_, h5, h6⟩
    rcases h.2 with ⟨e2, h0⟩ | ⟨g, cap', cur, e2, _⟩
    · rw [e] at e2; rw [(Value.slice.inj e2).1] at h4; cases h4
    · rw [e] at e2; cases e2; cases h4; rw [e]; rfl
theorem RSeg.nil (sz : Nat) (cs : α → List Value) (fq : Nat → Prop) (w : World) : RSeg sz cs fq w (.slice none 0 0) ([] : List α) := ⟨none, 0, rfl, by simp, by simp, .inl rfl⟩
end
/-- The document's gate. -/
structure RX (w : World) (R : Nat) (fd : Nat → Prop) (mv cv kv : Value) (r : Gs) : Prop where
  box : BoxT 33 w R #[mv, .int .u64 r.la, .int .u64 r.un, .bool r.ov, cv, kv]
  m : RSeg 1 i64cs fd w mv r.M
  c : RSeg 1 blcs fd w cv r.co
  k : RSeg 8 Ou.cs fd w kv r.cp
  nR : ¬ fd R
  flt : ∀ i, fd i → i < w.heap.size
  len : r.co.length = r.M.length
  pos : 1 ≤ r.M.length
  le : r.M.length ≤ 64
  la0 : 0 ≤ r.la
def RA (w : World) (R : Nat) (fq : Nat → Prop) (r : Gs) : Prop := ∃ fd mv cv kv, RX w R fd mv cv kv r ∧ ∀ i, fq i ↔ (i = R ∨ fd i)
section
variable {w w' : World} {R : Nat} {fd fq : Nat → Prop} {mv cv kv : Value} {r : Gs}
theorem RX.back (h : RX w R fd mv cv kv r) (hb : ∀ i, (i = R ∨ fd i) → w'.heap[i]? = w.heap[i]?) (hs : w.heap.size ≤ w'.heap.size) : RX w' R fd mv cv kv r :=
  { box := h.box.back (hb R (.inl rfl)), m := h.m.back (fun i hi _ => hb i (.inr hi)) hs, c := h.c.back (fun i hi _ => hb i (.inr hi)) hs, k := h.k.back (fun i hi _ => hb i (.inr hi)) hs, nR := h.nR, flt := fun i hi => Nat.lt_of_lt_of_le (h.flt i hi) hs, len := h.len, pos := h.pos, le := h.le, la0 := h.la0 }
theorem RA.back (h : RA w R fq r) (hb : ∀ i, fq i → w'.heap[i]? = w.heap[i]?) (hs : w.heap.size ≤ w'.heap.size) : RA w' R fq r := by
  obtain ⟨fd, mv, cv, kv, h, hf⟩ := h
  exact ⟨fd, mv, cv, kv, h.back (fun i hi => hb i ((hf i).2 hi)) hs, hf⟩
theorem RA.flt (h : RA w R fq r) : ∀ i, fq i → i < w.heap.size := by
  obtain ⟨fd, mv, cv, kv, h, hf⟩ := h
  intro i hi
  rcases (hf i).1 hi with rfl | hi
  · exact h.box.lt
  · exact h.flt i hi
theorem RA.below (h : RA w R fq r) (hb : Below w.heap.size w w') : RA w' R fq r := h.back (fun i hi => hb.block i (h.flt i hi)) hb.size
theorem RA.beside {fp fp' : Nat → Prop} (h : RA w R fq r) (hf : FT fp fp' w w') (hd : ∀ i, fq i → ¬ fp i) : RA w' R fq r := h.back (fun i hi => hf.block i (h.flt i hi) (hd i hi)) hf.size
theorem RX.cells (h : RX w R fd mv cv kv r) : w.cell? ⟨R, 0, none⟩ = some mv ∧ w.cell? ⟨R, 1, none⟩ = some (.int .u64 r.la) ∧ w.cell? ⟨R, 2, none⟩ = some (.int .u64 r.un) ∧ w.cell? ⟨R, 3, none⟩ = some (.bool r.ov) ∧ w.cell? ⟨R, 4, none⟩ = some cv ∧ w.cell? ⟨R, 5, none⟩ = some kv := by
  have hb := h.box
  unfold BoxT at hb
  simp [World.cell?, hb]
end
theorem seg_bool {B : Nat} {w : World} {ao : Option Addr} {n cap : Nat} {xs : List Bool} (h : LSeg 1 blcs B w (.slice ao n cap) xs) {t : Nat} {x : Bool} (hx : xs[t]? = some x) : ∃ b o, ao = some ⟨b, o, none⟩ ∧ b < B ∧ w.cell? ⟨b, o + t, none⟩ = some (.bool x) := by
  obtain ⟨ao', cap', e, _, hs⟩ := h
  cases e
  rcases hs with rfl | ⟨b, off, rfl, hb, hc⟩
  · simp at hx
  · exact ⟨b, off, rfl, hb, by simpa using hc t x hx 0 _ rfl⟩
theorem RSeg.shape {α : Type} {sz : Nat} {cs : α → List Value} {fq : Nat → Prop} {w : World} {v : Value} {xs : List α} (h : RSeg sz cs fq w v xs) : ∃ ao cap, v = .slice ao xs.length cap ∧ xs.length ≤ cap := by
  obtain ⟨ao, cap, h1, _, h2, _⟩ := h
  exact ⟨ao, cap, h1, h2⟩
set_option maxHeartbeats 1000000 in
set_option maxRecDepth 100000 in
theorem rBlocked_any {w : World} {R : Nat} {fq : Nat → Prop} {r : Gs} (h : RA w R fq r) (ch : Int) : Calls Try.prog 24 #[.pointer (some ⟨R, 0, none⟩), .int .i64 ch] w fun e w' => e = .returned (.bool (r.bl ch)) ∧ w = w' := by
  obtain ⟨fd, mv, cv, kv, h, hf⟩ := h
  obtain ⟨c0, -, c2, c3, c4, -⟩ := h.cells
  have hm := h.m.lseg
  have hcs := h.c.lseg
  obtain ⟨ma, mc, rfl, _⟩ := h.m.shape
  obtain ⟨ca, cc, rfl, _⟩ := h.c.shape
  have hle := h.le
  unfold Gs.bl
  cases hb : r.has ch with
  | false =>
    simp only [Bool.false_and]
    unfold Gs.has at hb
    have hb := of_decide_eq_false hb
    by_cases h1 : 0 ≤ ch
    · have h2 : ¬ ch < (r.M.length : Int) := fun e => hb ⟨h1, e⟩
      clear hf h hb hm hcs
      generalize r.M.length = n at *
      go_enter Try.func24, Try.ntmps24
      go_wp2_with fail
      go_ret
      exact ⟨rfl, rfl⟩
    · clear hf h hb hm hcs
      go_enter Try.func24, Try.ntmps24
      go_wp2_with fail
      go_ret
      exact ⟨rfl, rfl⟩
  | true =>
    obtain ⟨c, rfl, hc⟩ := Gs.has_nat hb
    obtain ⟨x, hx⟩ := get_of_lt (show c < r.co.length by rw [h.len]; exact hc)
    obtain ⟨cb, co, rfl, _, e5⟩ := seg_bool hcs hx
    have hg : r.co.getD (c : Int).toNat false = x := by simp [hx]
    rw [hg]
    have hi : (c : Int) < (r.M.length : Int) := by omega
    have hi2 : (c : Int) < (r.co.length : Int) := by rw [h.len]; omega
    have HLE : Hid (r.co.length = r.M.length) := h.len
    clear hf h hx hg hb hm hcs
    generalize r.co.length = n2 at *
    generalize r.M.length = n at *
    generalize r.un = un at *
    by_cases h0 : un = 0
    · subst h0
      go_enter Try.func24, Try.ntmps24
      go_wp2_with fail
      go_ret
      exact ⟨by simp, rfl⟩
    · have d0 : decide (un ≠ 0) = true := decide_eq_true h0
      rw [d0]
      cases hov : r.ov with
      | true =>
        rw [hov] at c3
        go_enter Try.func24, Try.ntmps24
        go_wp2_with fail
        go_ret
        exact ⟨by simp, rfl⟩
      | false =>
        rw [hov] at c3
        go_enter Try.func24, Try.ntmps24
        go_wp2_with fail
        go_ret
        exact ⟨by simp [h0], rfl⟩
set_option maxHeartbeats 1000000 in
set_option maxRecDepth 100000 in
theorem rMark_any {w : World} {R : Nat} {fq : Nat → Prop} {r : Gs} (h : RA w R fq r) : Calls Try.prog 16 #[.pointer (some ⟨R, 0, none⟩)] w fun e w' => e = .returned (.int .i64 (least r.M)) ∧ w = w' := by
  obtain ⟨fd, mv, cv, kv, h, hf⟩ := h
  obtain ⟨c0, -, -, -, -, -⟩ := h.cells
  have hl := h.m.lseg
  have h1 := h.pos
  have hle := h.le
  obtain ⟨ma, mc, rfl, _⟩ := h.m.shape
  clear h hf
  generalize r.M = l at *
  obtain ⟨x, m, rfl⟩ : ∃ x m, l = x :: m := by
    cases l with
    | nil => simp at h1
    | cons x m => exact ⟨x, m, rfl⟩
  have HL := hide hl
  obtain ⟨nb, no, rfl, nlt, d0⟩ := seg_int hl (t := 0) rfl
  rw [Nat.add_zero] at d0
  clear hl
  have HS : Hid (least ((x :: m).take 1) = x) := (show _ = _ from rfl)
  have HE : Hid (least ((x :: m).take (x :: m).length) = least (x :: m)) := (show _ = _ by rw [List.take_length])
  have HST : Hid (∀ t y, (x :: m)[t + 1]? = some y → least ((x :: m).take (t + 2)) = min (least ((x :: m).take (t + 1))) y) := (show ∀ t y, _ from fun t y h => least_take h)
  have H0 : Hid ((x :: m)[0]? = some x) := (show _ = _ from rfl)
  generalize least (x :: m) = Rr at *
  generalize hLL : (x :: m).length = L at *
  generalize hl : x :: m = l at *
  clear hl
  have b2 : (0 : Int) < (L : Int) := by omega
  go_enter Try.func16, Try.ntmps16
  go_wp2_with fail
  go_loopg [3, 4] (L + 1) (fun gh xv iv wr => ∃ (t : Nat) (y : Int), iv = .int .i64 (t : Int) ∧ t ≤ L ∧ L + 1 ≤ gh + t ∧ xv = .int .i64 y ∧ Hid (t = 0 ∧ y = x ∨ 1 ≤ t ∧ least (l.take t) = y) ∧ wr = w)
  case atStart => exact ⟨0, x, rfl, by omega, by omega, rfl, .inl ⟨rfl, rfl⟩, rfl⟩
  case round =>
    obtain ⟨t, y, rfl, ht, hg, rfl, HY, rfl⟩ := hrel
    obtain ⟨go, rfl⟩ : ∃ go, gk = go + 1 := ⟨gk - 1, by omega⟩
    by_cases hlt : t < L
    · obtain ⟨z, hz⟩ := get_of_lt (show t < l.length by rw [hLL]; exact hlt)
      have bt : (t : Int) < (L : Int) := by omega
      obtain ⟨nb', no', e', _, d1⟩ := seg_int HL.out hz
      cases e'
      have HZ : Hid (least (l.take (t + 1)) = min y z) := (show _ = _ by
        rcases HY.out with ⟨rfl, rfl⟩ | ⟨ht1, hy⟩
        · have e : z = y := by have := H0.out; rw [hz] at this; exact Option.some.inj this
          rw [HS.out, e]; omega
        · obtain ⟨t', rfl⟩ : ∃ t', t = t' + 1 := ⟨t - 1, by omega⟩
          rw [← hy]; exact HST.out t' z hz)
      clear hz
      go_wp2_with fail
      all_goals
        go_roundg go
        case rel => exact ⟨t + 1, _, by go_num, by omega, by omega, rfl, .inr ⟨by omega, (by rw [HZ.out]; omega)⟩, rfl⟩
        case measure => omega
    · have bt : ¬ (t : Int) < (L : Int) := by omega
      have HF : Hid (y = Rr) := (show _ = _ by
        rcases HY.out with ⟨h0, _⟩ | ⟨ht1, hy⟩
        · omega
        · rw [← hy, ← HE.out]; congr 2; omega)
      go_wp2_with fail
      go_ret
      exact ⟨ret_int HF.out, rfl⟩
end Go.Proofs.Ytmipgfobggbndaa
