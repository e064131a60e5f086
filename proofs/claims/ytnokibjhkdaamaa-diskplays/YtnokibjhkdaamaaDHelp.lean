/-
  Walks over the helps: Place, light.
-/
import Derived.Test.YtnokibjhkdaamaaDRen
namespace Go.Proofs.Ytnokibjhkdaamaa
open Go.RowKit Go.Maps

theorem tmod_emod {k n : Int} (hn : 0 < n) : (if k.tmod n < 0 then k.tmod n + n else k.tmod n) = k % n := by
  have h1 : 0 ≤ k % n := Int.emod_nonneg _ (by omega)
  have h2 : k % n < n := Int.emod_lt_of_pos _ hn
  have h3 := Int.emod_add_mul_ediv k n
  have h4 := Int.tmod_add_mul_tdiv k n
  rw [Int.tmod_eq_emod]
  have hn' : (n.natAbs : Int) = n := by omega
  split <;> split <;> omega

set_option maxHeartbeats 1000000 in
set_option maxRecDepth 100000 in
theorem Place_any (w : World) (k n : Int) (hn : 0 < n) (hn2 : n ≤ 1000000) : Calls Try.prog 38 #[.int .i64 k, .int .i64 n] w fun e w' => e = .returned (.int .i64 (k % n)) ∧ w' = w := by
  have hz : (n == 0) = false := by simp; omega
  have hz' : n ≠ 0 := by omega
  have hm1 : -n < k.tmod n := by
    have h5 := Int.lt_tmod_of_pos k hn
    omega
  have hm2 : k.tmod n < n := Int.tmod_lt_of_pos k hn
  have hw0 : IntKind.i64.wrap (k.tmod n) = k.tmod n := by rw [IntKind.wrap_i64]; omega
  have hw1 : wrap64 (k.tmod n) = k.tmod n := by unfold wrap64; omega
  have hw2 : wrap64 (k.tmod n + n) = k.tmod n + n := by unfold wrap64; omega
  have he := tmod_emod (k := k) hn
  by_cases h0 : k.tmod n < 0
  · rw [if_pos h0] at he
    go_enter Try.func38, Try.ntmps38
    go_wp2
    all_goals go_ret
    all_goals exact ⟨rfl, rfl⟩
  · rw [if_neg h0] at he
    go_enter Try.func38, Try.ntmps38
    go_wp2
    all_goals go_ret
    all_goals exact ⟨rfl, rfl⟩
/-- v is a slice of just the things xs, each of sz cells, which lie below block B. -/
def LSeg {α : Type} (sz : Nat) (cs : α → List Value) (B : Nat) (w : World) (v : Value) (xs : List α) : Prop :=
  ∃ ao cap, v = .slice ao xs.length cap ∧ xs.length ≤ 140737488355328 ∧ (xs = [] ∨ ∃ b off, ao = some ⟨b, off, none⟩ ∧ b < B ∧ ∀ (i : Nat) (x : α), xs[i]? = some x → ∀ (j : Nat) (u : Value), (cs x)[j]? = some u → w.cell? ⟨b, off + i * sz + j, none⟩ = some u)
section
variable {α : Type} {sz : Nat} {cs : α → List Value} {B : Nat} {w w' : World} {v : Value} {xs : List α}
theorem LSeg.kept (h : LSeg sz cs B w v xs) (hk : Kept B w w') (hB : B ≤ w.heap.size) : LSeg sz cs B w' v xs := by
  obtain ⟨ao, cap, h1, h2, h4⟩ := h
  refine ⟨ao, cap, h1, h2, ?_⟩
  rcases h4 with h4 | ⟨b, off, h5, h6, h7⟩
  · exact .inl h4
  · exact .inr ⟨b, off, h5, h6, fun i x hi j u hu => (World.cell?_of_block (hk.block b (by omega) (.inl h6))).trans (h7 i x hi j u hu)⟩
theorem LSeg.mono {B' : Nat} (h : LSeg sz cs B w v xs) (hB : B ≤ B') : LSeg sz cs B' w v xs := by
  obtain ⟨ao, cap, h1, h2, h4⟩ := h
  refine ⟨ao, cap, h1, h2, ?_⟩
  rcases h4 with h4 | ⟨b, off, h5, h6, h7⟩
  · exact .inl h4
  · exact .inr ⟨b, off, h5, by omega, h7⟩
theorem LSeg.below (h : LSeg sz cs B w v xs) (hb : Below B w w') : LSeg sz cs B w' v xs := by
  obtain ⟨ao, cap, h1, h2, h4⟩ := h
  refine ⟨ao, cap, h1, h2, ?_⟩
  rcases h4 with h4 | ⟨b, off, h5, h6, h7⟩
  · exact .inl h4
  · exact .inr ⟨b, off, h5, h6, fun i x hi j u hu => (hb.cell (p := ⟨b, off + i * sz + j, none⟩) h6).trans (h7 i x hi j u hu)⟩
end

/-- A step of a script. -/
structure Stp where
  wh : Int
  n : Int
  nm : ByteArray
  to : ByteArray
  ba : Option Addr
  bl : List Nat
  bc : Nat
  ka : Option Addr
  kl : List Int
  kc : Nat
def Stp.cs (p : Stp) : List Value := [.int .i64 p.wh, .int .i64 p.n, .string p.nm, .string p.to, .slice p.ba p.bl.length p.bc, .slice p.ka p.kl.length p.kc]
/-- What a step weighs. -/
def Stp.wt (p : Stp) : Nat := p.bl.length + p.nm.size + p.to.size + p.kl.length
def tot (xs : List Stp) : Nat := (xs.map Stp.wt).sum
theorem tot_succ {xs : List Stp} {i : Nat} {p : Stp} (h : xs[i]? = some p) : tot (xs.take (i + 1)) = tot (xs.take i) + p.wt := by
  obtain ⟨hi, rfl⟩ := List.getElem?_eq_some_iff.1 h
  unfold tot
  rw [List.take_succ_eq_append_getElem hi, List.map_append, List.sum_append]
  rfl
theorem tot_take (xs : List Stp) (i : Nat) : tot (xs.take i) ≤ tot xs := by
  have : tot xs = tot (xs.take i) + tot (xs.drop i) := by
    unfold tot
    rw [← List.sum_append, ← List.map_append, List.take_append_drop]
  omega
theorem LSeg.stp {B : Nat} {w : World} {xs : List Stp} {ao : Option Addr} {cap : Nat} (h : LSeg 6 Stp.cs B w (.slice ao xs.length cap) xs) {i : Nat} {p : Stp} (hp : xs[i]? = some p) :
    ∃ b off, ao = some ⟨b, off, none⟩ ∧ b < B ∧ w.cell? ⟨b, off + i * 6 + 0, none⟩ = some (.int .i64 p.wh) ∧ w.cell? ⟨b, off + i * 6 + 1, none⟩ = some (.int .i64 p.n) ∧ w.cell? ⟨b, off + i * 6 + 2, none⟩ = some (.string p.nm) ∧
      w.cell? ⟨b, off + i * 6 + 3, none⟩ = some (.string p.to) ∧ w.cell? ⟨b, off + i * 6 + 4, none⟩ = some (.slice p.ba p.bl.length p.bc) ∧ w.cell? ⟨b, off + i * 6 + 5, none⟩ = some (.slice p.ka p.kl.length p.kc) := by
  obtain ⟨ao', cap', e, h2, h4⟩ := h
  cases e
  rcases h4 with h4 | ⟨b, off, h5, h6, h7⟩
  · subst h4; simp at hp
  · exact ⟨b, off, h5, h6, h7 i p hp 0 _ rfl, h7 i p hp 1 _ rfl, h7 i p hp 2 _ rfl, h7 i p hp 3 _ rfl, h7 i p hp 4 _ rfl, h7 i p hp 5 _ rfl⟩

set_option maxHeartbeats 2000000 in
set_option maxRecDepth 100000 in
theorem light_any (B : Nat) (w : World) (ao : Option Addr) (cap : Nat) (xs : List Stp) (hl : LSeg 6 Stp.cs B w (.slice ao xs.length cap) xs) (hw : Hid (∀ p ∈ xs, p.wt ≤ 1125899906842624)) :
    Calls Try.prog 9 #[.slice ao xs.length cap] w fun e w' => e = .returned (.bool (decide (xs.length ≤ 300 ∧ tot xs ≤ 50000))) ∧ ∃ q, w' = w.drewN q := by
  have hlen : xs.length ≤ 140737488355328 := by obtain ⟨_, _, e, h2, _⟩ := hl; exact h2
  have HL : Hid (LSeg 6 Stp.cs B w (.slice ao xs.length cap) xs) := hl
  generalize hres : decide (xs.length ≤ 300 ∧ tot xs ≤ 50000) = res
  have HR : Hid (decide (xs.length ≤ 300 ∧ tot xs ≤ 50000) = res) := hres
  clear hl hres
  go_enter Try.func9, Try.ntmps9
  go_wp2
  go_loopw [3, 4] (fun nv iv wr => ∃ i t : Nat, i ≤ xs.length ∧ iv = .int .i64 i ∧ nv = .int .i64 t ∧ Hid (t = tot (xs.take i)) ∧ Hid (∃ q, wr = w.drewN q)) (fun _ iv _ => (xs.length - intOf iv).toNat)
  case atStart => exact ⟨0, 0, Nat.zero_le _, rfl, rfl, by simp [Hid, tot], ⟨0, rfl⟩⟩
  case round =>
    obtain ⟨i, t, hi, rfl, rfl, ht, HQ⟩ := hrel
    by_cases hlt : i < xs.length
    · by_cases hle : t ≤ 50000
      · have hp : Hid (xs[i]? = some xs[i]) := List.getElem?_eq_getElem hlt
        have hpw := hw.out _ (List.getElem_mem hlt)
        have hts := tot_succ hp.out
        obtain ⟨q, rfl⟩ := HQ.out
        have HL2 : LSeg 6 Stp.cs B (w.drewN q) (.slice ao xs.length cap) xs := HL.out
        obtain ⟨b, off, rfl, hb, c0, c1, c2, c3, c4, c5⟩ := HL2.stp hp.out
        generalize xs[i] = p at *
        have HTS : Hid (tot (xs.take (i + 1)) = tot (xs.take i) + p.wt) := hts
        have HPW : Hid (p.wt = p.bl.length + p.nm.size + p.to.size + p.kl.length) := rfl
        have hb1 : p.bl.length + p.nm.size + p.to.size + p.kl.length ≤ 1125899906842624 := hpw
        have e1 : (t : Int) ≤ 50000 := by omega
        clear hts hpw hp HL2
        have HQ2 : Hid (∃ q', (w.drewN q).drew = w.drewN q') := ⟨q + 1, rfl⟩
        generalize w.drewN q = wr at *
        go_wp2
        go_region
        all_goals
          go_wp2
          go_roundw
          case rel => exact ⟨i + 1, t + p.wt, by omega, by go_num, by rw [HPW.out]; go_num, by have := ht.out; have := HTS.out; show _ = _; omega, HQ2⟩
          case measure => simp [intOf]; omega
      · have e1 : ¬ (t : Int) ≤ 50000 := by omega
        have h1 := tot_take xs i
        have h2 := ht.out
        have hr : res = false := by rw [← HR.out]; simp; omega
        subst hr
        have e2 : decide ((t : Int) ≤ 50000) = false := by simp; omega
        clear h1 h2
        by_cases h3 : xs.length ≤ 300
        · have e3 : (xs.length : Int) ≤ 300 := by omega
          go_wp2
          go_ret
          exact ⟨rfl, HQ.out⟩
        · have e3 : ¬ (xs.length : Int) ≤ 300 := by omega
          go_wp2
          go_ret
          exact ⟨rfl, HQ.out⟩
    · have hi2 : i = xs.length := by omega
      have h2 := ht.out
      rw [hi2, List.take_length] at h2
      by_cases h3 : xs.length ≤ 300
      · have e3 : (xs.length : Int) ≤ 300 := by omega
        by_cases h4 : t ≤ 50000
        · have e4 : (t : Int) ≤ 50000 := by omega
          have hr : res = true := by rw [← HR.out]; simp; omega
          subst hr
          clear h2
          go_wp2
          go_ret
          exact ⟨rfl, HQ.out⟩
        · have e4 : ¬ (t : Int) ≤ 50000 := by omega
          have hr : res = false := by rw [← HR.out]; simp; omega
          subst hr
          clear h2
          go_wp2
          go_ret
          exact ⟨rfl, HQ.out⟩
      · have e3 : ¬ (xs.length : Int) ≤ 300 := by omega
        have hr : res = false := by rw [← HR.out]; simp; omega
        subst hr
        clear h2
        go_wp2
        go_ret
        exact ⟨rfl, HQ.out⟩
end Go.Proofs.Ytnokibjhkdaamaa
