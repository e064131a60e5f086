/-
  Bytes held against one another, once more: nothing but draws happens there.
-/
import Derived.Test.YtnokibjhkdaamaaDBase
namespace Go.Proofs.Ytnokibjhkdaamaa
open Go.RowKit

set_option maxHeartbeats 1000000 in
set_option maxRecDepth 100000 in
theorem Bytesq_core (n ca cb b1 o1 b2 o2 : Nat) (a b : List Nat) (w : World) (hn : n ≤ 140737488355328) (hla : Hid (a.length = n)) (hlb : Hid (b.length = n))
    (hc1 : ∀ (i x : Nat), a[i]? = some x → w.cell? ⟨b1, o1 + i, none⟩ = some (.int .u8 (x : Int))) (hc2 : ∀ (i x : Nat), b[i]? = some x → w.cell? ⟨b2, o2 + i, none⟩ = some (.int .u8 (x : Int))) :
    Calls Try.prog 29 #[.slice (some ⟨b1, o1, none⟩) n ca, .slice (some ⟨b2, o2, none⟩) n cb] w fun e w' => e = .returned (.bool (decide (a = b))) ∧ ∃ m, w' = w.drewN m := by
  have H1 : Hid (∀ (i x : Nat), a[i]? = some x → w.cell? ⟨b1, o1 + i, none⟩ = some (.int .u8 (x : Int))) := hc1
  have H2 : Hid (∀ (i x : Nat), b[i]? = some x → w.cell? ⟨b2, o2 + i, none⟩ = some (.int .u8 (x : Int))) := hc2
  clear hc1 hc2
  go_enter Try.func29, Try.ntmps29
  go_wp2
  go_loopw [5] (fun i wr => ∃ k : Nat, k ≤ n ∧ i = .int .i64 k ∧ Hid (∃ m, wr = w.drewN m) ∧ Hid (∀ i : Nat, i < k → a[i]? = b[i]?)) (fun i _ => n - (intOf i).toNat)
  case atStart => exact ⟨0, Nat.zero_le _, rfl, ⟨0, rfl⟩, fun i h => by omega⟩
  case round =>
    obtain ⟨k, hk, rfl, HW, HS⟩ := hrel
    have hcw : ∀ p : Addr, wr.cell? p = w.cell? p := fun p => by obtain ⟨m, rfl⟩ := HW.out; rfl
    by_cases hlt : k < n
    · obtain ⟨x, hx⟩ : ∃ x : Nat, a[k]? = some x := ⟨_, List.getElem?_eq_getElem (by have := hla.out; omega)⟩
      obtain ⟨y, hy⟩ : ∃ y : Nat, b[k]? = some y := ⟨_, List.getElem?_eq_getElem (by have := hlb.out; omega)⟩
      have c1 : wr.cell? ⟨b1, o1 + k, none⟩ = some (.int .u8 (x : Int)) := (hcw _).trans (H1.out k x hx)
      have c2 : wr.cell? ⟨b2, o2 + k, none⟩ = some (.int .u8 (y : Int)) := (hcw _).trans (H2.out k y hy)
      have HX : Hid (a[k]? = some x) := hx
      have HY : Hid (b[k]? = some y) := hy
      clear hx hy hcw
      by_cases hxy : x = y
      · subst hxy
        go_wp2
        go_quiet (fail)
        go_wp2
        go_roundw
        case rel => exact ⟨k + 1, by omega, by go_num, by obtain ⟨m, rfl⟩ := HW.out; exact ⟨_, World.drewN_drewN ..⟩, fun i hi => by
          by_cases hik : i < k
          · exact HS.out i hik
          · obtain rfl : i = k := by omega
            rw [HX.out, HY.out]⟩
        case measure => simp [intOf]; omega
      · have e1 : ((x : Int) != (y : Int)) = true := by simp; omega
        go_wp2
        go_quiet (fail)
        go_wp2
        go_ret
        refine ⟨ret_bool0 (by
          symm; apply decide_eq_false; intro h; subst h
          have := HX.out.symm.trans HY.out; exact hxy (Option.some.inj this)), by obtain ⟨m, rfl⟩ := HW.out; exact ⟨_, World.drewN_drewN ..⟩⟩
    · clear hcw
      go_wp2
      go_ret
      exact ⟨ret_bool0 (by simp; exact (list_eq_of hla.out hlb.out fun i hi => HS.out i (by omega)).symm ▸ rfl), HW.out⟩

set_option maxHeartbeats 1000000 in
set_option maxRecDepth 100000 in
theorem Bytesq_any (va vb : Value) (a b : List Nat) (w : World) (ha : Seg w va a) (hb : Seg w vb b) :
    Calls Try.prog 29 #[va, vb] w fun e w' => e = .returned (.bool (decide (a = b))) ∧ ∃ m, w' = w.drewN m := by
  obtain ⟨aa, ca, rfl, hla, hca, hna, ha⟩ := ha
  obtain ⟨ab, cb, rfl, hlb, hcb, hnb, hb⟩ := hb
  by_cases hlen : a.length = b.length
  · by_cases h0 : a = []
    · subst h0
      have : b = [] := by simpa using hlen.symm
      subst this
      clear ha hb hlen
      simp only [List.length_nil]
      go_enter Try.func29, Try.ntmps29
      go_wp2
      refine wp_loop_rounds 1 ?_
      rw [rounds_succ]
      go_wp2
      go_ret
      exact ⟨ret_bool0 (by simp), ⟨0, rfl⟩⟩
    · rcases ha with ha | ⟨b1, o1, rfl, h1, hc1⟩
      · exact absurd ha h0
      rcases hb with rfl | ⟨b2, o2, rfl, h2, hc2⟩
      · exact absurd (by simpa using hlen) h0
      rw [← hlen]
      exact Bytesq_core a.length ca cb b1 o1 b2 o2 a b w hna rfl hlen.symm hc1 hc2
  · have e0 : ((a.length : Int) != (b.length : Int)) = true := by simp; omega
    have HL : Hid (¬ a.length = b.length) := hlen
    clear ha hb hlen
    go_enter Try.func29, Try.ntmps29
    go_wp2
    go_ret
    exact ⟨ret_bool0 (by symm; apply decide_eq_false; intro h; exact HL.out (by rw [h])), ⟨0, rfl⟩⟩

/-- A beginning of bytes that are read. -/
theorem Seg.first {w : World} {ao : Option Addr} {l : List Nat} {cap : Nat} (h : Seg w (.slice ao l.length cap) l) (k : Nat) (hk : k ≤ l.length) : Seg w (.slice ao k cap) (l.take k) := by
  obtain ⟨ao', cap', hv, h1, h2, h3, h4⟩ := h
  obtain ⟨rfl, rfl⟩ : ao = ao' ∧ cap = cap' := by simpa using hv
  have e : (l.take k).length = k := by rw [List.length_take]; omega
  refine ⟨ao, cap, by rw [e], by omega, h2, by omega, ?_⟩
  rcases h4 with h4 | ⟨b, off, h5, h6, h7⟩
  · exact .inl (by rw [h4]; simp)
  · refine .inr ⟨b, off, h5, h6, fun i x hx => h7 i x ?_⟩
    rw [List.getElem?_take] at hx
    split at hx
    · exact hx
    · cases hx
theorem Seg.drewN {w : World} {v : Value} {l : List Nat} (h : Seg w v l) (n : Nat) : Seg (w.drewN n) v l := h
end Go.Proofs.Ytnokibjhkdaamaa
