/-
  known: the chapter's examples.
-/
import Derived.Test.YtfiafbfbiidnlaaJLogs2
namespace Go.Proofs.Ytfiafbfbiidnlaa
open Go.RowKit

theorem LSeg.ofRow {α : Type} {sz t : Nat} {cs : α → List Value} (hcs : ∀ x, (cs x).length = sz) {B : Nat} {w : World} {g cap : Nat} {cur : Array Value} {xs : List α} (hb : BoxT t w g cur) (hg : g < B) (hl : xs.length ≤ 140737488355328) (hc : ∀ (j : Nat) (u : Value), (xs.flatMap cs)[j]? = some u → cur[j]? = some u) :
    LSeg sz cs B w (.slice (some ⟨g, 0, none⟩) xs.length cap) xs := by
  refine ⟨_, cap, rfl, hl, .inr ⟨g, 0, rfl, hg, fun i x hx j u hu => ?_⟩⟩
  rw [hb.cellAt, Nat.zero_add]
  exact hc _ u (flat_get hcs xs i j x u hx hu)
theorem LSeg.ofRow' {α : Type} {sz t : Nat} {cs : α → List Value} (hcs : ∀ x, (cs x).length = sz) {B : Nat} {w : World} {g cap : Nat} {xs : List α} (hb : BoxT t w g (xs.flatMap cs).toArray) (hg : g < B) (hl : xs.length ≤ 140737488355328) :
    LSeg sz cs B w (.slice (some ⟨g, 0, none⟩) xs.length cap) xs := LSeg.ofRow hcs hb hg hl (fun j u h => by simpa using h)
theorem LSeg.none {α : Type} {sz : Nat} {cs : α → List Value} {B : Nat} {w : World} {c : Nat} : LSeg sz cs B w (.slice none 0 c) ([] : List α) := ⟨_, c, rfl, by simp, .inl rfl⟩

set_option maxHeartbeats 1000000 in
set_option maxRecDepth 100000 in
/-- Ints of equal lists. -/
theorem Ints_any {w : World} {va vb : Value} {xs : List Int} (ha : LSeg 1 ic w.heap.size w va xs) (hb : LSeg 1 ic w.heap.size w vb xs) :
    Calls Try.prog 13 #[va, vb] w fun e w' => e = .returned (.bool true) ∧ Below w.heap.size w w' := by
  obtain ⟨aa, ca, rfl⟩ := ha.shape
  obtain ⟨ab, cb, rfl⟩ := hb.shape
  have HA := hide ha
  have HB := hide hb
  have la := ha.len
  clear ha hb
  go_enter Try.func13, Try.ntmps13
  go_wp2_with fail
  go_loopg [5] (xs.length + 1) (fun g iv wr => ∃ i : Nat, i ≤ xs.length ∧ iv = .int .i64 i ∧ xs.length + 1 ≤ g + i ∧ Hid (Below w.heap.size w wr))
  case atStart => exact ⟨0, Nat.zero_le _, rfl, by omega, Below.refl _ _⟩
  case round =>
    obtain ⟨i, hi, rfl, hg, HI⟩ := hrel
    obtain ⟨go, rfl⟩ : ∃ go, gk = go + 1 := ⟨gk - 1, by omega⟩
    by_cases hlt : i < xs.length
    · obtain ⟨x, hx⟩ := get_of_lt hlt
      obtain ⟨b1, o1, rfl, -, c1⟩ := (HA.out.below HI.out).num hx
      obtain ⟨b2, o2, rfl, -, c2⟩ := (HB.out.below HI.out).num hx
      have bi : (i : Int) < (xs.length : Int) := by omega
      clear hx
      go_wp2
      go_region
      all_goals
        go_wp2
        go_roundg go
        case rel => exact ⟨i + 1, by omega, by go_num, by omega, HI.out.drew⟩
        case measure => omega
    · have bi : ¬ (i : Int) < (xs.length : Int) := by omega
      go_wp2
      go_ret
      exact ⟨rfl, HI.out⟩

/-- The chapter's jobs and logs. -/
def kn1 (a b : Nat) : List Nd := [⟨1, none, 0, [], 1, ⟨0, 0, none, 0, []⟩, 0, 0, 0, 0⟩, ⟨7, some ⟨a, 0, none⟩, 1, [0], 2, ⟨0, 0, none, 0, []⟩, 1, 2, 10, 3⟩, ⟨8, some ⟨b, 0, none⟩, 1, [1], 1, ⟨0, 0, none, 0, []⟩, 0, 0, 0, 0⟩]
def kn2 (a : Nat) : List Nd := [⟨5, some ⟨a, 0, none⟩, 1, [0], 1, ⟨0, 0, none, 0, []⟩, 0, 0, 0, 0⟩]
def kl1 (a b : Nat) : List En := [⟨some ⟨b, 0, none⟩, 1, [⟨some ⟨a, 0, none⟩, 1, [⟨2, 0, 0, 0, 9223372036854775807⟩]⟩]⟩, ⟨none, 0, []⟩, ⟨none, 0, []⟩]
theorem kn_a (a b : Nat) : errJ (kn1 a b) = 0 ∧ errW (kn1 a b) = 0 ∧ wts (kn1 a b) = [1, 4, 4] ∧ ordC ((kn1 a b).map Nd.ins) = [0, 1, 2] := ⟨by kernel_rfl, by kernel_rfl, by kernel_rfl, by kernel_rfl⟩
theorem kn_b (a : Nat) : errJ (kn2 a) = 83 := by kernel_rfl
theorem kn_c : errJ [] = 80 := by kernel_rfl
theorem kn_d (a b c d : Nat) : logE (kn1 a b) (kl1 c d) = 0 ∧ logE (kn1 a b) [] = 89 ∧ wholeB (kl1 c d) = true ∧ itemsN (kl1 c d) = 1 := ⟨by kernel_rfl, by kernel_rfl, by kernel_rfl, by kernel_rfl⟩
theorem ten (w : World) (o0 o1 o2 o3 o4 o5 o6 o7 o8 o9 : Obj) :
    ((((((((((w.alloc o0).alloc o1).alloc o2).alloc o3).alloc o4).alloc o5).alloc o6).alloc o7).alloc o8).alloc o9).heap[w.heap.size]? = some o0 ∧
    ((((((((((w.alloc o0).alloc o1).alloc o2).alloc o3).alloc o4).alloc o5).alloc o6).alloc o7).alloc o8).alloc o9).heap[w.heap.size + 1]? = some o1 ∧
    ((((((((((w.alloc o0).alloc o1).alloc o2).alloc o3).alloc o4).alloc o5).alloc o6).alloc o7).alloc o8).alloc o9).heap[w.heap.size + 1 + 1]? = some o2 ∧
    ((((((((((w.alloc o0).alloc o1).alloc o2).alloc o3).alloc o4).alloc o5).alloc o6).alloc o7).alloc o8).alloc o9).heap[w.heap.size + 1 + 1 + 1]? = some o3 ∧
    ((((((((((w.alloc o0).alloc o1).alloc o2).alloc o3).alloc o4).alloc o5).alloc o6).alloc o7).alloc o8).alloc o9).heap[w.heap.size + 1 + 1 + 1 + 1]? = some o4 ∧
    ((((((((((w.alloc o0).alloc o1).alloc o2).alloc o3).alloc o4).alloc o5).alloc o6).alloc o7).alloc o8).alloc o9).heap[w.heap.size + 1 + 1 + 1 + 1 + 1]? = some o5 ∧
    ((((((((((w.alloc o0).alloc o1).alloc o2).alloc o3).alloc o4).alloc o5).alloc o6).alloc o7).alloc o8).alloc o9).heap[w.heap.size + 1 + 1 + 1 + 1 + 1 + 1]? = some o6 ∧
    ((((((((((w.alloc o0).alloc o1).alloc o2).alloc o3).alloc o4).alloc o5).alloc o6).alloc o7).alloc o8).alloc o9).heap[w.heap.size + 1 + 1 + 1 + 1 + 1 + 1 + 1]? = some o7 ∧
    ((((((((((w.alloc o0).alloc o1).alloc o2).alloc o3).alloc o4).alloc o5).alloc o6).alloc o7).alloc o8).alloc o9).heap[w.heap.size + 1 + 1 + 1 + 1 + 1 + 1 + 1 + 1]? = some o8 ∧
    ((((((((((w.alloc o0).alloc o1).alloc o2).alloc o3).alloc o4).alloc o5).alloc o6).alloc o7).alloc o8).alloc o9).heap[w.heap.size + 1 + 1 + 1 + 1 + 1 + 1 + 1 + 1 + 1]? = some o9 := by
  have e : ((((((((((w.alloc o0).alloc o1).alloc o2).alloc o3).alloc o4).alloc o5).alloc o6).alloc o7).alloc o8).alloc o9).heap = (((((((((w.heap.push o0).push o1).push o2).push o3).push o4).push o5).push o6).push o7).push o8).push o9 := rfl
  rw [e]
  simp only [Array.getElem?_push, Array.size_push]
  refine ⟨?_, ?_, ?_, ?_, ?_, ?_, ?_, ?_, ?_, ?_⟩
  · rw [if_neg (by omega), if_neg (by omega), if_neg (by omega), if_neg (by omega), if_neg (by omega), if_neg (by omega), if_neg (by omega), if_neg (by omega), if_neg (by omega), if_pos trivial]
  · rw [if_neg (by omega), if_neg (by omega), if_neg (by omega), if_neg (by omega), if_neg (by omega), if_neg (by omega), if_neg (by omega), if_neg (by omega), if_pos trivial]
  · rw [if_neg (by omega), if_neg (by omega), if_neg (by omega), if_neg (by omega), if_neg (by omega), if_neg (by omega), if_neg (by omega), if_pos trivial]
  · rw [if_neg (by omega), if_neg (by omega), if_neg (by omega), if_neg (by omega), if_neg (by omega), if_neg (by omega), if_pos trivial]
  · rw [if_neg (by omega), if_neg (by omega), if_neg (by omega), if_neg (by omega), if_neg (by omega), if_pos trivial]
  · rw [if_neg (by omega), if_neg (by omega), if_neg (by omega), if_neg (by omega), if_pos trivial]
  · rw [if_neg (by omega), if_neg (by omega), if_neg (by omega), if_pos trivial]
  · rw [if_neg (by omega), if_neg (by omega), if_pos trivial]
  · rw [if_neg (by omega), if_pos trivial]
  · rw [if_pos trivial]
theorem step_any {F : FuncId} {args : Array Value} {w : World} {Q : Ending → World → Prop} (h : ∀ w1, w1 = w → Calls Try.prog F args w1 Q) : Calls Try.prog F args w Q := h w rfl
theorem tenBelow (w : World) (o0 o1 o2 o3 o4 o5 o6 o7 o8 o9 : Obj) : Below w.heap.size w ((((((((((w.alloc o0).alloc o1).alloc o2).alloc o3).alloc o4).alloc o5).alloc o6).alloc o7).alloc o8).alloc o9) :=
  (((((((((((Below.refl w.heap.size w).alloc (Nat.le_refl _) _).alloc (by simp) _).alloc (by simp; omega) _).alloc (by simp; omega) _).alloc (by simp; omega) _).alloc (by simp; omega) _).alloc (by simp; omega) _).alloc (by simp; omega) _).alloc (by simp; omega) _).alloc (by simp; omega) _)
/-- What lies where known has made it. -/
structure Kn (b : Nat) (w : World) : Prop where
  j1 : JobIn (b + 10) w (.slice (some ⟨b + 1 + 1, 0, none⟩) 3 3) (kn1 b (b + 1))
  x1 : BoxT 24 w (b + 1 + 1 + 1) #[.slice (some ⟨b + 1 + 1, 0, none⟩) 3 3]
  j2 : JobIn (b + 10) w (.slice (some ⟨b + 1 + 1 + 1 + 1 + 1, 0, none⟩) 1 1) (kn2 (b + 1 + 1 + 1 + 1))
  x2 : BoxT 24 w (b + 1 + 1 + 1 + 1 + 1 + 1) #[.slice (some ⟨b + 1 + 1 + 1 + 1 + 1, 0, none⟩) 1 1]
  l1 : LogIn (b + 10) w (.slice (some ⟨b + 1 + 1 + 1 + 1 + 1 + 1 + 1 + 1 + 1, 0, none⟩) 3 3) (kl1 (b + 1 + 1 + 1 + 1 + 1 + 1 + 1) (b + 1 + 1 + 1 + 1 + 1 + 1 + 1 + 1))
  sz : b + 10 ≤ w.heap.size
theorem Kn.below {b : Nat} {w w' : World} (h : Kn b w) (hb : Below w.heap.size w w') : Kn b w' :=
  ⟨h.j1.below (hb.mono h.sz), h.x1.below hb, h.j2.below (hb.mono h.sz), h.x2.below hb, h.l1.below (hb.mono h.sz), Nat.le_trans h.sz hb.size⟩
theorem ExOk.noE {w : World} {ns : List Nd} (h : ∀ n ∈ ns, ¬ (2 ≤ n.kind ∧ n.kind ≤ 4)) : ExOk w ns := fun n hn hk => absurd hk (h n hn)
theorem kn1_noE (a b : Nat) : ∀ n ∈ kn1 a b, ¬ (2 ≤ n.kind ∧ n.kind ≤ 4) := by
  intro n hn
  simp only [kn1, List.mem_cons, List.not_mem_nil, or_false] at hn
  rcases hn with rfl | rfl | rfl <;> simp
theorem kn2_noE (a : Nat) : ∀ n ∈ kn2 a, ¬ (2 ≤ n.kind ∧ n.kind ≤ 4) := by
  intro n hn
  simp only [kn2, List.mem_cons, List.not_mem_nil, or_false] at hn
  rcases hn with rfl
  simp
theorem OwnN.lseg {base : Nat} {w : World} {v : Value} {l : List Nat} (h : OwnN base w v l) (hl : l.length ≤ 1000) : LSeg 1 ic w.heap.size w v (l.map Int.ofNat) := by
  rcases h.2 with ⟨rfl, h0⟩ | ⟨g, cap, cur, h1, h2, h3, h4, h5, h6, h7⟩
  · rw [List.length_eq_zero_iff.1 h0]; exact LSeg.none
  · by_cases hn : l = []
    · subst hn; subst h1; exact ⟨_, cap, rfl, by simp, .inl rfl⟩
    · obtain ⟨g, cap, cur, rfl, _, hb, _, _, _, hat⟩ := OwnN.row h hn
      refine ⟨_, cap, by simp, by simp; omega, .inr ⟨g, 0, rfl, hb.lt, fun i x hx j u hu => ?_⟩⟩
      rw [List.getElem?_map] at hx
      obtain ⟨y, hy, rfl⟩ := Option.map_eq_some_iff.1 hx
      match j, hu with
      | 0, hu =>
        simp [ic] at hu
        subst hu
        rw [hb.cellAt]
        simpa using hat i y hy
theorem BoxT.lsegN {w : World} {G : Nat} {ws : List Nat} {c : Nat} (h : BoxT 3 w G (ws.map fun x : Nat => Value.int .i64 (x : Int)).toArray) (hl : ws.length ≤ 1000) : LSeg 1 ic w.heap.size w (.slice (some ⟨G, 0, none⟩) ws.length c) (ws.map Int.ofNat) := by
  refine ⟨_, c, by simp, by simp; omega, .inr ⟨G, 0, rfl, h.lt, fun i x hx j u hu => ?_⟩⟩
  rw [List.getElem?_map] at hx
  obtain ⟨y, hy, rfl⟩ := Option.map_eq_some_iff.1 hx
  match j, hu with
  | 0, hu =>
    simp [ic] at hu
    subst hu
    rw [h.cellAt]
    simp [hy]

end Go.Proofs.Ytfiafbfbiidnlaa
